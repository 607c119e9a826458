/- The law: the arena in which nothing has happened is as the document says. -/
import Derived.Test.YtgbepebihlmedaaDoorP18
set_option linter.unusedSimpArgs false
namespace Go.Proofs.YtgbepebihlmedaaDoor
open Go.RowKit

/-- within the law: what was told at G, the configuration at B, the plan, the arena. -/
structure LawAt (w : World) (B G q c p : Nat) (C : Nat → Int) (Z : Nat) (F f : Nat → Int) (W : World) : Prop where
  al : Lies W G 55 (nums (nl Z f))
  bx : Lies W B 23 (ic C)
  pl : PlanAt W p C
  ar : Arena W q c (nl Z F) 0
  be : Below B w W
  bg : B < G
section
variable {w : World} {B G q c p : Nat} {C : Nat → Int} {Z : Nat} {F f : Nat → Int} {W W' : World}
theorem LawAt.next (h : LawAt w B G q c p C Z F f W) (k : Below W.heap.size W W') : LawAt w B G q c p C Z F f W' :=
  ⟨h.al.below k h.al.lt, h.bx.below k h.bx.lt, h.pl.keep k h.pl.lt, h.ar.below k h.ar.head.lt h.ar.body.lt, h.be.trans (k.mono (Nat.le_of_lt h.bx.lt)), h.bg⟩
theorem LawAt.drew (h : LawAt w B G q c p C Z F f W) : LawAt w B G q c p C Z F f W.drew := ⟨h.al, h.bx, h.pl, ⟨h.ar.head, h.ar.body, h.ar.pos, h.ar.most, h.ar.fit, h.ar.k0⟩, h.be.drew, h.bg⟩
theorem LawAt.set (h : LawAt w B G q c p C Z F f W) (i : Nat) (v : Int) : LawAt w B G q c p C Z F (upd f i v) (W.setCell ⟨G, i, none⟩ (.int .u64 v)) := by
  have k : Turns [G] W (W.setCell ⟨G, i, none⟩ (.int .u64 v)) := (Turns.refl _ _).setCell (.inl (by simp)) _
  have n1 : B ≠ G := h.bx.unlike h.al (by decide)
  have n2 : p ≠ G := Lies.unlike h.pl h.al (by decide)
  have n3 : q ≠ G := h.ar.head.unlike h.al (by decide)
  have n4 : c ≠ G := h.ar.body.unlike h.al (by decide)
  refine ⟨?_, h.bx.turn k (by simpa using n1), h.pl.turn k (by simpa using n2), h.ar.turn k (by simpa using n3) (by simpa using n4), h.be.trans (k.below (by have := h.bg; simp; omega) (Nat.le_of_lt h.bx.lt)), h.bg⟩
  have := h.al.set i (.int .u64 v)
  rwa [nums_set, nl_set] at this
theorem LawAt.cell (h : LawAt w B G q c p C Z F f W) (i : Nat) (hi : i < Z) : W.cell? ⟨G, i, none⟩ = some (.int .u64 (f i)) := by
  have := h.al.cell i
  rwa [nums_at (by rw [nl_length]; exact hi), nl_getA hi] at this
end

set_option maxRecDepth 100000 in
theorem fresh_no (C : Nat → Int) (w : World) (ht : Tab w) (hr : ¬ Right C) :
    Calls Tryd.prog 6 #[.agg (ic C)] w fun r w' => r = .returned (.bool true) ∧ Below w.heap.size w w' := by
  obtain ⟨l0, b0, t0⟩ := boxed3 C w ht 23
  have h0 : Box w w.heap.size C (w.alloc (.cells (ic C) 23)) := ⟨l0, b0, t0⟩
  clear l0 b0 t0
  go_enter Tryd.func6, Tryd.ntmps6
  go_wp2_with fail
  generalize hBe : w.heap.size = B at *
  have HBE := Lib.hid hBe
  clear hBe
  generalize w.alloc (.cells (ic C) 23) = w0 at *
  refine (speaks3_any _ h0.t).mono ?_
  rintro r w1 ⟨rfl, b1⟩
  have h1 := h0.next b1
  clear b1 h0
  obtain ⟨d0, d1, d2, d3, d4, d5, d6, d7, d8, d9, d10, d11, d12⟩ := h1.l.thir
  go_wp2_with fail
  refine (right_no C _ hr).mono ?_
  rintro r w2 ⟨rfl, b2⟩
  have h2 := h1.next b2
  clear b2 h1 d0 d1 d2 d3 d4 d5 d6 d7 d8 d9 d10 d11 d12
  go_wp2_with fail
  refine (speaks3_any _ h2.t).mono ?_
  rintro r w3 ⟨rfl, b3⟩
  have h3 := h2.next b3
  clear b3 h2
  go_wp2
  go_ret
  exact ⟨rfl, by rw [HBE.out]; exact h3.be⟩

set_option maxRecDepth 100000 in
set_option maxHeartbeats 8000000 in
theorem fresh_yes (C : Nat → Int) (w : World) (ht : Tab w) (hr : Right C) :
    Calls Tryd.prog 6 #[.agg (ic C)] w fun r w' => r = .returned (.bool true) ∧ Below w.heap.size w w' := by
  obtain ⟨W, L, S, E, N, T, X, hN⟩ := nats hr
  have hbd := bds hr
  have c6b := hbd.c6
  obtain ⟨A, hA⟩ : ∃ A, A = 3 + W * E := ⟨_, rfl⟩
  obtain ⟨Bt, hB⟩ : ∃ Bt, Bt = A + N * 4 := ⟨_, rfl⟩
  obtain ⟨Z, hZ⟩ : ∃ Z, Z = Bt + T * 3 + X := ⟨_, rfl⟩
  have hz : plZ C = Z := by rw [hN.plZ, hZ, hB, hA]
  have hZb : Z ≤ 74691 := by have := hbd.z; omega
  have hN1 : 1 ≤ N := by have := hbd.c3; have := hN.n; omega
  have hT1 : 1 ≤ T := by have := hbd.c4; have := hN.t; omega
  have hT8 : T ≤ 8192 := by have := hbd.c4; have := hN.t; omega
  have hBZ : Bt + T * 3 ≤ Z := by omega
  have hNB : A + N * 4 ≤ Bt := by omega
  have hA3 : 3 ≤ A := by omega
  have HA := Lib.hid hA
  have HBq := Lib.hid hB
  have HZq := Lib.hid hZ
  have HZZ := Lib.hid hz
  have HN := Lib.hid hN
  clear hN hz hbd hA hB hZ
  obtain ⟨l0, b0, t0⟩ := boxed3 C w ht 23
  have h0 : Box w w.heap.size C (w.alloc (.cells (ic C) 23)) := ⟨l0, b0, t0⟩
  clear l0 b0 t0
  go_enter Tryd.func6, Tryd.ntmps6
  go_wp2_with fail
  generalize hBe : w.heap.size = B at *
  have HBE := Lib.hid hBe
  clear hBe
  generalize w.alloc (.cells (ic C) 23) = w0 at *
  refine (speaks3_any _ h0.t).mono ?_
  rintro r w1 ⟨rfl, b1⟩
  have h1 := h0.next b1
  clear b1 h0
  obtain ⟨d0, d1, d2, d3, d4, d5, d6, d7, d8, d9, d10, d11, d12⟩ := h1.l.thir
  go_wp2_with fail
  refine (right_yes C _ hr).mono ?_
  rintro r w2 ⟨rfl, b2⟩
  have h2 := h1.next b2
  clear b2 h1 d0 d1 d2 d3 d4 d5 d6 d7 d8 d9 d10 d11 d12
  obtain ⟨d0, d1, d2, d3, d4, d5, d6, d7, d8, d9, d10, d11, d12⟩ := h2.l.thir
  go_wp2_with fail
  refine (rsize_any C _ hr).mono ?_
  rintro r w3 ⟨rfl, b3⟩
  rw [HZZ.out]
  have h3 := h2.next b3
  clear b3 h2 d0 d1 d2 d3 d4 d5 d6 d7 d8 d9 d10 d11 d12
  by_cases hbig : (20000 : Int) < Z
  · go_wp2_with fail
    refine (speaks3_any _ h3.t).mono ?_
    rintro r w4 ⟨rfl, b4⟩
    have h4 := h3.next b4
    clear b4 h3
    go_wp2
    go_ret
    exact ⟨rfl, by rw [HBE.out]; exact h4.be⟩
  · obtain ⟨d0, d1, d2, d3, d4, d5, d6, d7, d8, d9, d10, d11, d12⟩ := h3.l.thir
    go_wp2_with fail
    refine (lawof_any C _).mono ?_
    rintro r w4 ⟨rfl, b4⟩
    have h4 := h3.next b4
    clear b4 h3 d0 d1 d2 d3 d4 d5 d6 d7 d8 d9 d10 d11 d12
    go_wp2_with fail
    refine (new_yes C _ h4.t hr).mono ?_
    rintro r w5 ⟨p, rfl, hp0, hp5, b5⟩
    have h5 := h4.next b5
    clear b5 h4 hp0
    go_wp2_with fail
    refine (fresh_any C p _ hp5 hr W L S E N T X A Bt Z HN.out HA.out HBq.out HZq.out).mono ?_
    rintro r w6 ⟨q, c, rfl, har, hq0, hc0, b6⟩
    have h6 := h5.next b6
    have hp6 := hp5.keep b6 hp5.lt
    have HQC := Lib.hid (show ∀ k, k ∈ [q, c] → B ≤ k by have := h5.l.lt; simp; omega)
    have HBS := Lib.hid (show B ≤ w.heap.size by rw [HBE.out]; exact Nat.le_refl _)
    clear b6 h5 hp5 hq0 hc0
    have hlen := nl_length Z (freshF A Bt N T C)
    have HL := Lib.hid hlen
    clear hlen
    have HSR := Lib.hid (icl_size C)
    go_wp2_with fail
    refine wp_region_held_drew (S := fun W' => Lies W' B 23 (ic C)) (by kernel_rfl) h6.l.drew (fun hHeld => ?_)
    refine wpAnyH_take (i := 0) (oi := { dst := some 41, op := Go.Op.move (Go.Operand.tmp 5), type := 51, pos := "law.go:117", after := #[], guard := none }) (v := ?_) rfl (by kernel_rfl) (by kernel_rfl) (by kernel_rfl) (fun _ _ _ h => h) (Or.inl ⟨by rfl, ?_⟩) hHeld ?_
    rotate_left
    · intro w hSw; go_simp; try with_reducible rfl
    rotate_left
    try simp only [Act.put, List.setIfInBounds_toArray, List.set_cons_zero, List.set_cons_succ]
    refine wpAnyH_take (i := 1) (oi := { dst := some 42, op := Go.Op.binOp Go.BinOp.eql 51 (Go.Operand.tmp 41) (Go.Operand.const (Go.Value.pointer none)) 51, type := 4, pos := "law.go:117", after := #[{ on := 0, ground := Go.Ground.data }], guard := none }) (v := ?_) rfl (by kernel_rfl) (by kernel_rfl) (by kernel_rfl) (fun _ _ _ h => h) (Or.inl ⟨by rfl, ?_⟩) hHeld ?_
    rotate_left
    · intro w hSw; go_simp; try with_reducible rfl
    rotate_left
    try simp only [Act.put, List.setIfInBounds_toArray, List.set_cons_zero, List.set_cons_succ]
    refine wpAnyH_take (i := 2) (oi := { dst := some 43, op := Go.Op.move (Go.Operand.tmp 42), type := 4, pos := "law.go:117", after := #[{ on := 1, ground := Go.Ground.data }], guard := none }) (v := ?_) rfl (by kernel_rfl) (by kernel_rfl) (by kernel_rfl) (fun _ _ _ h => h) (Or.inl ⟨by rfl, ?_⟩) hHeld ?_
    rotate_left
    · intro w hSw; go_simp; try with_reducible rfl
    rotate_left
    try simp only [Act.put, List.setIfInBounds_toArray, List.set_cons_zero, List.set_cons_succ]
    refine wpAnyH_take (i := 3) (oi := { dst := some 44, op := Go.Op.move (Go.Operand.tmp 5), type := 51, pos := "law.go:117", after := #[{ on := 2, ground := Go.Ground.guard }], guard := some (2, false) }) (v := ?_) rfl (by kernel_rfl) (by kernel_rfl) (by kernel_rfl) (fun _ _ _ h => h) (Or.inl ⟨by rfl, ?_⟩) hHeld ?_
    rotate_left
    · intro w hSw; go_simp; try with_reducible rfl
    rotate_left
    try simp only [Act.put, List.setIfInBounds_toArray, List.set_cons_zero, List.set_cons_succ]
    refine wpAnyH_ready (rs := [4]) (by kernel_rfl) (by simp) ?_
    refine AllReadyH.cons (o := { dst := some 45, op := Go.Op.call { callee := Go.Callee.value (Go.Operand.func 36), args := #[Go.Operand.tmp 44], argTypes := #[51] }, type := 3, pos := "law.go:117", after := #[{ on := 3, ground := Go.Ground.data }, { on := 2, ground := Go.Ground.chain }, { on := 2, ground := Go.Ground.guard }], guard := some (2, false) }) rfl (fun K hK => ?_) AllReadyH.nil
    go_simp
    have har1 : Arena w6.drew q c (nl Z (freshF A Bt N T C)) 0 := ⟨har.head, har.body, har.pos, har.most, har.fit, har.k0⟩
    refine (count_any har1).mono ?_
    rintro r u ⟨rfl, rfl⟩
    go_wp2_with fail
    refine hK.out _ _ h6.l.drew (fun hHeld => ?_)
    clear hK K
    try simp only [Act.put, List.setIfInBounds_toArray, List.set_cons_zero, List.set_cons_succ]
    refine wpAnyH_take (i := 5) (oi := { dst := some 46, op := Go.Op.binOp Go.BinOp.neq 3 (Go.Operand.tmp 45) (Go.Operand.const (Go.Value.int Go.IntKind.i64 0)) 3, type := 4, pos := "law.go:117", after := #[{ on := 4, ground := Go.Ground.data }, { on := 2, ground := Go.Ground.guard }], guard := some (2, false) }) (v := ?_) rfl (by kernel_rfl) (by kernel_rfl) (by kernel_rfl) (fun _ _ _ h => h) (Or.inl ⟨by rfl, ?_⟩) hHeld ?_
    rotate_left
    · intro w hSw; go_simp; try with_reducible rfl
    rotate_left
    try simp only [Act.put, List.setIfInBounds_toArray, List.set_cons_zero, List.set_cons_succ]
    refine wpAnyH_take (i := 6) (oi := { dst := some 47, op := Go.Op.pick (Go.Operand.tmp 43) (Go.Operand.const (Go.Value.bool true)) (Go.Operand.tmp 46), type := 4, pos := "law.go:117", after := #[{ on := 2, ground := Go.Ground.data }, { on := 5, ground := Go.Ground.data }], guard := none }) (v := ?_) rfl (by kernel_rfl) (by kernel_rfl) (by kernel_rfl) (fun _ _ _ h => h) (Or.inl ⟨by rfl, ?_⟩) hHeld ?_
    rotate_left
    · intro w hSw; go_simp; try with_reducible rfl
    rotate_left
    try simp only [Act.put, List.setIfInBounds_toArray, List.set_cons_zero, List.set_cons_succ]
    refine wpAnyH_take (i := 7) (oi := { dst := some 48, op := Go.Op.move (Go.Operand.tmp 47), type := 4, pos := "law.go:117", after := #[{ on := 6, ground := Go.Ground.data }, { on := 4, ground := Go.Ground.chain }], guard := none }) (v := ?_) rfl (by kernel_rfl) (by kernel_rfl) (by kernel_rfl) (fun _ _ _ h => h) (Or.inl ⟨by rfl, ?_⟩) hHeld ?_
    rotate_left
    · intro w hSw; go_simp; try with_reducible rfl
    rotate_left
    try simp only [Act.put, List.setIfInBounds_toArray, List.set_cons_zero, List.set_cons_succ]
    refine wpAnyH_take (i := 8) (oi := { dst := some 49, op := Go.Op.move (Go.Operand.tmp 5), type := 51, pos := "law.go:117", after := #[{ on := 7, ground := Go.Ground.guard }], guard := some (7, false) }) (v := ?_) rfl (by kernel_rfl) (by kernel_rfl) (by kernel_rfl) (fun _ _ _ h => h) (Or.inl ⟨by rfl, ?_⟩) hHeld ?_
    rotate_left
    · intro w hSw; go_simp; try with_reducible rfl
    rotate_left
    try simp only [Act.put, List.setIfInBounds_toArray, List.set_cons_zero, List.set_cons_succ]
    refine wpAnyH_take (i := 10) (oi := { dst := some 51, op := Go.Op.load 23 (Go.Operand.tmp 1), type := 23, pos := "law.go:117", after := #[{ on := 7, ground := Go.Ground.guard }], guard := some (7, false) }) (v := .agg (ic C)) rfl (by kernel_rfl) (by kernel_rfl) (by kernel_rfl) (fun _ _ _ h => h) (yieldsIf_load_mid (by rfl) 23 (.tmp 1) rfl B 0 rfl (icl C) _ (fun _ h => h.range) Tryd.underlying23 rfl HSR.out) hHeld ?_
    try simp only [Act.put, List.setIfInBounds_toArray, List.set_cons_zero, List.set_cons_succ]
    refine wpAnyH_ready (rs := [9]) (by kernel_rfl) (by simp) ?_
    refine AllReadyH.cons (o := { dst := some 50, op := Go.Op.call { callee := Go.Callee.value (Go.Operand.func 37), args := #[Go.Operand.tmp 49], argTypes := #[51] }, type := 3, pos := "law.go:117", after := #[{ on := 8, ground := Go.Ground.data }, { on := 7, ground := Go.Ground.chain }, { on := 7, ground := Go.Ground.guard }], guard := some (7, false) }) rfl (fun K hK => ?_) AllReadyH.nil
    go_simp
    refine (len_any har1).mono ?_
    rintro r u ⟨rfl, rfl⟩
    rw [HL.out]
    go_wp2_with fail
    refine hK.out _ _ h6.l.drew (fun hHeld => ?_)
    clear hK K
    try simp only [Act.put, List.setIfInBounds_toArray, List.set_cons_zero, List.set_cons_succ]
    refine wpAnyH_ready (rs := [11]) (by kernel_rfl) (by simp) ?_
    refine AllReadyH.cons (o := { dst := some 52, op := Go.Op.call { callee := Go.Callee.value (Go.Operand.func 17), args := #[Go.Operand.tmp 51], argTypes := #[23] }, type := 3, pos := "law.go:117", after := #[{ on := 10, ground := Go.Ground.data }, { on := 9, ground := Go.Ground.chain }, { on := 7, ground := Go.Ground.guard }], guard := some (7, false) }) rfl (fun K hK => ?_) AllReadyH.nil
    go_simp
    refine (rsize_any C _ hr).mono ?_
    rintro r w7 ⟨rfl, b7⟩
    rw [HZZ.out]
    have b7' : Below w6.heap.size w6 w7 := ⟨b7.os, b7.tape, b7.output, b7.size, b7.block⟩
    have h7 := h6.next b7'
    go_wp2_with fail
    refine hK.out _ _ h7.l (fun hHeld => ?_)
    clear hK K
    try simp only [Act.put, List.setIfInBounds_toArray, List.set_cons_zero, List.set_cons_succ]
    refine wpAnyH_take (i := 12) (oi := { dst := some 53, op := Go.Op.binOp Go.BinOp.neq 3 (Go.Operand.tmp 50) (Go.Operand.tmp 52) 3, type := 4, pos := "law.go:117", after := #[{ on := 9, ground := Go.Ground.data }, { on := 11, ground := Go.Ground.data }, { on := 7, ground := Go.Ground.guard }], guard := some (7, false) }) (v := ?_) rfl (by kernel_rfl) (by kernel_rfl) (by kernel_rfl) (fun _ _ _ h => h) (Or.inl ⟨by rfl, ?_⟩) hHeld ?_
    rotate_left
    · intro w hSw; go_simp; try with_reducible rfl
    rotate_left
    try simp only [Act.put, List.setIfInBounds_toArray, List.set_cons_zero, List.set_cons_succ]
    refine wpAnyH_take (i := 13) (oi := { dst := some 54, op := Go.Op.pick (Go.Operand.tmp 48) (Go.Operand.const (Go.Value.bool true)) (Go.Operand.tmp 53), type := 4, pos := "law.go:117", after := #[{ on := 7, ground := Go.Ground.data }, { on := 12, ground := Go.Ground.data }], guard := none }) (v := ?_) rfl (by kernel_rfl) (by kernel_rfl) (by kernel_rfl) (fun _ _ _ h => h) (Or.inl ⟨by rfl, ?_⟩) hHeld ?_
    rotate_left
    · intro w hSw; go_simp; try with_reducible rfl
    rotate_left
    try simp only [Act.put, List.setIfInBounds_toArray, List.set_cons_zero, List.set_cons_succ]
    refine wpAnyH_done (by kernel_rfl) ?_ _
    have har7 := har.below b7' har.head.lt har.body.lt
    have hp7 := hp6.keep b7' hp6.lt
    clear har har1 hp6 h6 b7 b7' hHeld
    go_wp2_with fail
    refine (all_any q c _ 0 _ har7).mono ?_
    rintro r w8 ⟨rfl, hl8, b8, hs8⟩
    rw [HL.out]
    have h8 := h7.next b8
    have hlaw : LawAt w B w7.heap.size q c p C Z (freshF A Bt N T C) (freshF A Bt N T C) w8 := ⟨hl8, h8.l, hp7.keep b8 hp7.lt, har7.below b8 har7.head.lt har7.body.lt, h8.be, h7.l.lt⟩
    have hL1 : LawAt w B w7.heap.size q c p C Z (freshF A Bt N T C) (fr A Bt T (C 6 * 4294967296) 1 1 0 (N - 1) N 0 (T - 1)) w8 := hlaw
    clear hlaw hl8 b8 hs8 h8 h7 har7 hp7
    generalize w7.heap.size = G at *
    have hF0 : freshF A Bt N T C 0 = 0 := by
      unfold freshF fr
      rw [if_neg (by omega), if_neg (by omega), if_neg (by omega), if_neg (by omega)]
    have HF0 := Lib.hid hF0
    clear hF0
    generalize freshF A Bt N T C = F at *
    have HSG := Lib.hid (get_gen _ c6b)
    have HST := Lib.hid (get_time _ c6b)
    have HSS := Lib.hid (get_status _ c6b)
    generalize hst : C 6 * 4294967296 = st at *
    have hstb : U64 st := by unfold U64; omega
    clear hst
    have e3 := hL1.bx.thir.c3
    rw [HN.out.n] at e3
    go_wp2_with fail
    go_loopw [59] (fun a u => ∃ m : Nat, m ≤ N ∧ a = .int .i64 m ∧ LawAt w B G q c p C Z F (fr A Bt T st 1 1 m (N - 1) N 0 (T - 1)) u) (fun a _ => N - (intOf a).toNat)
    case atStart => exact ⟨0, by omega, rfl, hL1⟩
    case round =>
      clear hL1 e3
      obtain ⟨m, hm, rfl, hL⟩ := hrel
      by_cases hlt : m < N
      · obtain ⟨J, hJ⟩ : ∃ J, J = A + m * 4 := ⟨_, rfl⟩
        have hJ0 : (J : Int) < Z := by omega
        obtain ⟨J3, hJ3e⟩ : ∃ J3, J3 = A + m * 4 + 3 := ⟨_, rfl⟩
        have hJ3b : (J3 : Int) < Z := by omega
        have V0 := Lib.hid (show plNode C m 0 = J by rw [HN.out.node m hlt, hJ, HA.out]; push_cast; omega)
        have V3 := Lib.hid (show plNode C m 3 = J3 by rw [HN.out.node m hlt, hJ3e, HA.out]; push_cast; omega)
        have vs : fr A Bt T st 1 1 m (N - 1) N 0 (T - 1) J = st := by rw [hJ]; exact fr_at_state hA3 HBq.out hlt (by omega)
        obtain ⟨lv, hlv⟩ : ∃ lv, fr A Bt T st 1 1 m (N - 1) N 0 (T - 1) J3 = lv := ⟨_, rfl⟩
        have hle : lv = if m = N - 1 then 0 else (m : Int) + 2 := by
          rw [← hlv, hJ3e]
          by_cases h : m = N - 1
          · rw [if_pos h]; exact fr_at_last hA3 HBq.out hlt (by omega)
          · rw [if_neg h]; exact fr_at_link hA3 HBq.out hlt (by omega)
        have HNX := Lib.hid (show upd (upd (fr A Bt T st 1 1 m (N - 1) N 0 (T - 1)) J 0) J3 0 = fr A Bt T st 1 1 (m + 1) (N - 1) N 0 (T - 1) by rw [hJ, hJ3e]; exact fr_node hA3 HBq.out hlt)
        generalize fr A Bt T st 1 1 m (N - 1) N 0 (T - 1) = f at *
        have HVS := Lib.hid vs
        have HLV := Lib.hid hlv
        clear vs hlv hJ hJ3e
        have g3 := hL.bx.thir.c3
        rw [HN.out.n] at g3
        have g6 := hL.bx.thir.c6
        have x0 := hL.cell J (by omega)
        have x3 := hL.cell J3 (by omega)
        rw [HVS.out] at x0
        rw [HLV.out] at x3
        have hcase : (m = N - 1 ∧ lv = 0) ∨ (m ≠ N - 1 ∧ lv = (m : Int) + 2) := by
          by_cases h : m = N - 1
          · exact .inl ⟨h, by rw [hle, if_pos h]⟩
          · exact .inr ⟨h, by rw [hle, if_neg h]⟩
        clear hle
        have hlv2 : lv = 0 ∨ lv = (m : Int) + 2 := by omega
        have hcn : (((m : Int) == (N : Int) - 1) = true ∧ lv = 0) ∨ (((m : Int) == (N : Int) - 1) = false ∧ lv = (m : Int) + 2) := by
          rcases hcase with ⟨h1, h2⟩ | ⟨h1, h2⟩
          · exact .inl ⟨beq_iff_eq.2 (by omega), h2⟩
          · exact .inr ⟨beq_eq_false_iff_ne.2 (by omega), h2⟩
        clear hcase hlv2
        rcases hcn with ⟨hc1, hc2⟩ | ⟨hc1, hc2⟩
        · subst hc2
          go_wp2_with fail
          refine wp_region_held_drew (S := fun W' => W'.cell? ⟨G, J, none⟩ = some (.int .u64 st) ∧ W'.cell? ⟨G, J3, none⟩ = some (.int .u64 0) ∧ W'.cell? ⟨B, 6, none⟩ = some (.int .i64 (C 6))) (by kernel_rfl) ⟨x0, x3, g6⟩ (fun hHeld => ?_)
          refine wpAnyH_take (i := 0) (oi := { dst := some 70, op := Go.Op.move (Go.Operand.tmp 6), type := 53, pos := "law.go:126", after := #[], guard := none }) (v := ?_) rfl (by kernel_rfl) (by kernel_rfl) (by kernel_rfl) (fun _ _ _ h => h) (Or.inl ⟨by rfl, ?_⟩) hHeld ?_
          rotate_left
          · intro w hSw; go_simp; try with_reducible rfl
          rotate_left
          try simp only [Act.put, List.setIfInBounds_toArray, List.set_cons_zero, List.set_cons_succ]
          refine wpAnyH_take (i := 1) (oi := { dst := some 71, op := Go.Op.move (Go.Operand.tmp 3), type := 33, pos := "law.go:126", after := #[], guard := none }) (v := ?_) rfl (by kernel_rfl) (by kernel_rfl) (by kernel_rfl) (fun _ _ _ h => h) (Or.inl ⟨by rfl, ?_⟩) hHeld ?_
          rotate_left
          · intro w hSw; go_simp; try with_reducible rfl
          rotate_left
          try simp only [Act.put, List.setIfInBounds_toArray, List.set_cons_zero, List.set_cons_succ]
          refine wpAnyH_take (i := 2) (oi := { dst := some 72, op := Go.Op.move (Go.Operand.tmp 7), type := 3, pos := "law.go:126", after := #[], guard := none }) (v := ?_) rfl (by kernel_rfl) (by kernel_rfl) (by kernel_rfl) (fun _ _ _ h => h) (Or.inl ⟨by rfl, ?_⟩) hHeld ?_
          rotate_left
          · intro w hSw; go_simp; try with_reducible rfl
          rotate_left
          try simp only [Act.put, List.setIfInBounds_toArray, List.set_cons_zero, List.set_cons_succ]
          refine wpAnyH_take (i := 7) (oi := { dst := some 77, op := Go.Op.indexAddr 23 (Go.Operand.tmp 1) (Go.Operand.const (Go.Value.int Go.IntKind.i64 6)), type := 0, pos := "law.go:126", after := #[], guard := none }) (v := ?_) rfl (by kernel_rfl) (by kernel_rfl) (by kernel_rfl) (fun _ _ _ h => h) (Or.inl ⟨by rfl, ?_⟩) hHeld ?_
          rotate_left
          · intro w hSw; go_simp; try with_reducible rfl
          rotate_left
          try simp only [Act.put, List.setIfInBounds_toArray, List.set_cons_zero, List.set_cons_succ]
          refine wpAnyH_take (i := 8) (oi := { dst := some 78, op := Go.Op.load 3 (Go.Operand.tmp 77), type := 3, pos := "law.go:126", after := #[{ on := 7, ground := Go.Ground.data }], guard := none }) (v := ?_) rfl (by kernel_rfl) (by kernel_rfl) (by kernel_rfl) (fun _ _ _ h => h) (Or.inl ⟨by rfl, ?_⟩) hHeld ?_
          rotate_left
          · intro w hSw; go_simp; try with_reducible rfl
          rotate_left
          try simp only [Act.put, List.setIfInBounds_toArray, List.set_cons_zero, List.set_cons_succ]
          refine wpAnyH_take (i := 9) (oi := { dst := some 79, op := Go.Op.build 57 #[(0, Go.Operand.tmp 78)], type := 57, pos := "law.go:126", after := #[{ on := 8, ground := Go.Ground.data }], guard := none }) (v := ?_) rfl (by kernel_rfl) (by kernel_rfl) (by kernel_rfl) (fun _ _ _ h => h) (Or.inl ⟨by rfl, ?_⟩) hHeld ?_
          rotate_left
          · intro w hSw; go_simp; try with_reducible rfl
          rotate_left
          try simp only [Act.put, List.setIfInBounds_toArray, List.set_cons_zero, List.set_cons_succ]
          refine wpAnyH_ready (rs := [3]) (by kernel_rfl) (by simp) ?_
          refine AllReadyH.cons (o := { dst := some 73, op := Go.Op.call { callee := Go.Callee.value (Go.Operand.func 27), args := #[Go.Operand.tmp 71, Go.Operand.tmp 72], argTypes := #[33, 3] }, type := 3, pos := "law.go:126", after := #[{ on := 1, ground := Go.Ground.data }, { on := 2, ground := Go.Ground.data }], guard := none }) rfl (fun K hK => ?_) AllReadyH.nil
          go_simp
          refine (state_any C p m _ hL.drew.pl hr).mono ?_
          rintro r v1 ⟨rfl, q1⟩
          rw [V0.out]
          have hL2 := hL.drew.next q1
          go_wp2_with fail
          refine hK.out _ _ ⟨by rw [hL2.cell J (by omega), HVS.out], by rw [hL2.cell J3 (by omega), HLV.out], hL2.bx.thir.c6⟩ (fun hHeld => ?_)
          clear hK K
          try simp only [Act.put, List.setIfInBounds_toArray, List.set_cons_zero, List.set_cons_succ]
          refine wpAnyH_take (i := 4) (oi := { dst := some 74, op := Go.Op.indexAddr 53 (Go.Operand.tmp 70) (Go.Operand.tmp 73), type := 0, pos := "law.go:126", after := #[{ on := 0, ground := Go.Ground.data }, { on := 3, ground := Go.Ground.data }], guard := none }) (v := ?_) rfl (by kernel_rfl) (by kernel_rfl) (by kernel_rfl) (fun _ _ _ h => h) (Or.inl ⟨by rfl, ?_⟩) hHeld ?_
          rotate_left
          · intro w hSw; go_simp; try with_reducible rfl
          rotate_left
          try simp only [Act.put, List.setIfInBounds_toArray, List.set_cons_zero, List.set_cons_succ]
          refine wpAnyH_take (i := 5) (oi := { dst := some 75, op := Go.Op.load 55 (Go.Operand.tmp 74), type := 55, pos := "law.go:126", after := #[{ on := 4, ground := Go.Ground.data }], guard := none }) (v := ?_) rfl (by kernel_rfl) (by kernel_rfl) (by kernel_rfl) (fun _ _ _ h => h) (Or.inl ⟨by rfl, ?_⟩) hHeld ?_
          rotate_left
          · intro w hSw; go_simp; try with_reducible rfl
          rotate_left
          try simp only [Act.put, List.setIfInBounds_toArray, List.set_cons_zero, List.set_cons_succ]
          refine wpAnyH_ready (rs := [6]) (by kernel_rfl) (by simp) ?_
          refine AllReadyH.cons (o := { dst := some 76, op := Go.Op.call { callee := Go.Callee.value (Go.Operand.func 39), args := #[Go.Operand.tmp 75], argTypes := #[55] }, type := 57, pos := "law.go:126", after := #[{ on := 5, ground := Go.Ground.data }, { on := 3, ground := Go.Ground.chain }], guard := none }) rfl (fun K hK => ?_) AllReadyH.nil
          go_simp
          refine (state_of st _ hstb).mono ?_
          rintro r v2 ⟨rfl, q2⟩
          rw [HSG.out, HST.out, HSS.out]
          have hL3 := hL2.next q2
          go_wp2_with fail
          refine hK.out _ _ ⟨by rw [hL3.cell J (by omega), HVS.out], by rw [hL3.cell J3 (by omega), HLV.out], hL3.bx.thir.c6⟩ (fun hHeld => ?_)
          clear hK K
          try simp only [Act.put, List.setIfInBounds_toArray, List.set_cons_zero, List.set_cons_succ]
          refine wpAnyH_take (i := 10) (oi := { dst := some 80, op := Go.Op.binOp Go.BinOp.neq 57 (Go.Operand.tmp 76) (Go.Operand.tmp 79) 57, type := 4, pos := "law.go:126", after := #[{ on := 6, ground := Go.Ground.data }, { on := 9, ground := Go.Ground.data }], guard := none }) (v := ?_) rfl (by kernel_rfl) (by kernel_rfl) (by kernel_rfl) (fun _ _ _ h => h) (Or.inl ⟨by rfl, ?_⟩) hHeld ?_
          rotate_left
          · intro w hSw; go_simp; try with_reducible rfl
          rotate_left
          try simp only [Act.put, List.setIfInBounds_toArray, List.set_cons_zero, List.set_cons_succ]
          refine wpAnyH_take (i := 11) (oi := { dst := some 81, op := Go.Op.move (Go.Operand.tmp 80), type := 4, pos := "law.go:126", after := #[{ on := 10, ground := Go.Ground.data }, { on := 6, ground := Go.Ground.chain }], guard := none }) (v := ?_) rfl (by kernel_rfl) (by kernel_rfl) (by kernel_rfl) (fun _ _ _ h => h) (Or.inl ⟨by rfl, ?_⟩) hHeld ?_
          rotate_left
          · intro w hSw; go_simp; try with_reducible rfl
          rotate_left
          try simp only [Act.put, List.setIfInBounds_toArray, List.set_cons_zero, List.set_cons_succ]
          refine wpAnyH_take (i := 12) (oi := { dst := some 82, op := Go.Op.move (Go.Operand.tmp 6), type := 53, pos := "law.go:126", after := #[{ on := 11, ground := Go.Ground.guard }], guard := some (11, false) }) (v := ?_) rfl (by kernel_rfl) (by kernel_rfl) (by kernel_rfl) (fun _ _ _ h => h) (Or.inl ⟨by rfl, ?_⟩) hHeld ?_
          rotate_left
          · intro w hSw; go_simp; try with_reducible rfl
          rotate_left
          try simp only [Act.put, List.setIfInBounds_toArray, List.set_cons_zero, List.set_cons_succ]
          refine wpAnyH_take (i := 13) (oi := { dst := some 83, op := Go.Op.move (Go.Operand.tmp 3), type := 33, pos := "law.go:126", after := #[{ on := 11, ground := Go.Ground.guard }], guard := some (11, false) }) (v := ?_) rfl (by kernel_rfl) (by kernel_rfl) (by kernel_rfl) (fun _ _ _ h => h) (Or.inl ⟨by rfl, ?_⟩) hHeld ?_
          rotate_left
          · intro w hSw; go_simp; try with_reducible rfl
          rotate_left
          try simp only [Act.put, List.setIfInBounds_toArray, List.set_cons_zero, List.set_cons_succ]
          refine wpAnyH_take (i := 14) (oi := { dst := some 84, op := Go.Op.move (Go.Operand.tmp 7), type := 3, pos := "law.go:126", after := #[{ on := 11, ground := Go.Ground.guard }], guard := some (11, false) }) (v := ?_) rfl (by kernel_rfl) (by kernel_rfl) (by kernel_rfl) (fun _ _ _ h => h) (Or.inl ⟨by rfl, ?_⟩) hHeld ?_
          rotate_left
          · intro w hSw; go_simp; try with_reducible rfl
          rotate_left
          try simp only [Act.put, List.setIfInBounds_toArray, List.set_cons_zero, List.set_cons_succ]
          refine wpAnyH_take (i := 18) (oi := { dst := some 88, op := Go.Op.move (Go.Operand.tmp 8), type := 55, pos := "law.go:126", after := #[{ on := 11, ground := Go.Ground.guard }], guard := some (11, false) }) (v := ?_) rfl (by kernel_rfl) (by kernel_rfl) (by kernel_rfl) (fun _ _ _ h => h) (Or.inl ⟨by rfl, ?_⟩) hHeld ?_
          rotate_left
          · intro w hSw; go_simp; try with_reducible rfl
          rotate_left
          try simp only [Act.put, List.setIfInBounds_toArray, List.set_cons_zero, List.set_cons_succ]
          refine wpAnyH_ready (rs := [15]) (by kernel_rfl) (by simp) ?_
          refine AllReadyH.cons (o := { dst := some 85, op := Go.Op.call { callee := Go.Callee.value (Go.Operand.func 30), args := #[Go.Operand.tmp 83, Go.Operand.tmp 84], argTypes := #[33, 3] }, type := 3, pos := "law.go:126", after := #[{ on := 13, ground := Go.Ground.data }, { on := 14, ground := Go.Ground.data }, { on := 11, ground := Go.Ground.chain }, { on := 11, ground := Go.Ground.guard }], guard := some (11, false) }) rfl (fun K hK => ?_) AllReadyH.nil
          go_simp
          refine (nodeLink_any C p m _ hL3.pl hr).mono ?_
          rintro r v3 ⟨rfl, q3⟩
          rw [V3.out]
          have hL4 := hL3.next q3
          go_wp2_with fail
          refine hK.out _ _ ⟨by rw [hL4.cell J (by omega), HVS.out], by rw [hL4.cell J3 (by omega), HLV.out], hL4.bx.thir.c6⟩ (fun hHeld => ?_)
          clear hK K
          try simp only [Act.put, List.setIfInBounds_toArray, List.set_cons_zero, List.set_cons_succ]
          refine wpAnyH_take (i := 16) (oi := { dst := some 86, op := Go.Op.indexAddr 53 (Go.Operand.tmp 82) (Go.Operand.tmp 85), type := 0, pos := "law.go:126", after := #[{ on := 12, ground := Go.Ground.data }, { on := 15, ground := Go.Ground.data }, { on := 11, ground := Go.Ground.guard }], guard := some (11, false) }) (v := ?_) rfl (by kernel_rfl) (by kernel_rfl) (by kernel_rfl) (fun _ _ _ h => h) (Or.inl ⟨by rfl, ?_⟩) hHeld ?_
          rotate_left
          · intro w hSw; go_simp; try with_reducible rfl
          rotate_left
          try simp only [Act.put, List.setIfInBounds_toArray, List.set_cons_zero, List.set_cons_succ]
          refine wpAnyH_take (i := 17) (oi := { dst := some 87, op := Go.Op.load 55 (Go.Operand.tmp 86), type := 55, pos := "law.go:126", after := #[{ on := 16, ground := Go.Ground.data }, { on := 11, ground := Go.Ground.guard }], guard := some (11, false) }) (v := ?_) rfl (by kernel_rfl) (by kernel_rfl) (by kernel_rfl) (fun _ _ _ h => h) (Or.inl ⟨by rfl, ?_⟩) hHeld ?_
          rotate_left
          · intro w hSw; go_simp; try with_reducible rfl
          rotate_left
          try simp only [Act.put, List.setIfInBounds_toArray, List.set_cons_zero, List.set_cons_succ]
          refine wpAnyH_take (i := 19) (oi := { dst := some 89, op := Go.Op.binOp Go.BinOp.neq 55 (Go.Operand.tmp 87) (Go.Operand.tmp 88) 55, type := 4, pos := "law.go:126", after := #[{ on := 17, ground := Go.Ground.data }, { on := 18, ground := Go.Ground.data }, { on := 11, ground := Go.Ground.guard }], guard := some (11, false) }) (v := ?_) rfl (by kernel_rfl) (by kernel_rfl) (by kernel_rfl) (fun _ _ _ h => h) (Or.inl ⟨by rfl, ?_⟩) hHeld ?_
          rotate_left
          · intro w hSw; go_simp; try with_reducible rfl
          rotate_left
          try simp only [Act.put, List.setIfInBounds_toArray, List.set_cons_zero, List.set_cons_succ]
          refine wpAnyH_take (i := 20) (oi := { dst := some 90, op := Go.Op.pick (Go.Operand.tmp 81) (Go.Operand.const (Go.Value.bool true)) (Go.Operand.tmp 89), type := 4, pos := "law.go:126", after := #[{ on := 11, ground := Go.Ground.data }, { on := 19, ground := Go.Ground.data }], guard := none }) (v := ?_) rfl (by kernel_rfl) (by kernel_rfl) (by kernel_rfl) (fun _ _ _ h => h) (Or.inl ⟨by rfl, ?_⟩) hHeld ?_
          rotate_left
          · intro w hSw; go_simp; try with_reducible rfl
          rotate_left
          try simp only [Act.put, List.setIfInBounds_toArray, List.set_cons_zero, List.set_cons_succ]
          refine wpAnyH_done (by kernel_rfl) ?_ _
          clear hL hL2 hL3 q1 q2 q3 hHeld x0 x3 g3 g6
          go_wp2_with fail
          refine (state_any C p m _ hL4.pl hr).mono ?_
          rintro r v4 ⟨rfl, q4⟩
          rw [V0.out]
          have hL5 := hL4.next q4
          go_wp2_with fail
          refine (nodeLink_any C p m _ hL5.pl hr).mono ?_
          rintro r v5 ⟨rfl, q5⟩
          rw [V3.out]
          have hL6 := hL5.next q5
          have y0 := hL6.cell J (by omega)
          have z0 := hL6.al.frozen J
          have y3 := (hL6.set J 0).cell J3 (by omega)
          have z3 := (hL6.set J 0).al.frozen J3
          have hL7 := (hL6.set J 0).set J3 0
          rw [HNX.out] at hL7
          clear hL4 hL5 hL6 q4 q5
          go_wp2
          go_roundw
          case rel => exact ⟨m + 1, by omega, by go_num, hL7⟩
          case measure => simp [intOf]; omega
        · subst hc2
          go_wp2_with fail
          refine wp_region_held_drew (S := fun W' => W'.cell? ⟨G, J, none⟩ = some (.int .u64 st) ∧ W'.cell? ⟨G, J3, none⟩ = some (.int .u64 ((m : Int) + 2)) ∧ W'.cell? ⟨B, 6, none⟩ = some (.int .i64 (C 6))) (by kernel_rfl) ⟨x0, x3, g6⟩ (fun hHeld => ?_)
          refine wpAnyH_take (i := 0) (oi := { dst := some 70, op := Go.Op.move (Go.Operand.tmp 6), type := 53, pos := "law.go:126", after := #[], guard := none }) (v := ?_) rfl (by kernel_rfl) (by kernel_rfl) (by kernel_rfl) (fun _ _ _ h => h) (Or.inl ⟨by rfl, ?_⟩) hHeld ?_
          rotate_left
          · intro w hSw; go_simp; try with_reducible rfl
          rotate_left
          try simp only [Act.put, List.setIfInBounds_toArray, List.set_cons_zero, List.set_cons_succ]
          refine wpAnyH_take (i := 1) (oi := { dst := some 71, op := Go.Op.move (Go.Operand.tmp 3), type := 33, pos := "law.go:126", after := #[], guard := none }) (v := ?_) rfl (by kernel_rfl) (by kernel_rfl) (by kernel_rfl) (fun _ _ _ h => h) (Or.inl ⟨by rfl, ?_⟩) hHeld ?_
          rotate_left
          · intro w hSw; go_simp; try with_reducible rfl
          rotate_left
          try simp only [Act.put, List.setIfInBounds_toArray, List.set_cons_zero, List.set_cons_succ]
          refine wpAnyH_take (i := 2) (oi := { dst := some 72, op := Go.Op.move (Go.Operand.tmp 7), type := 3, pos := "law.go:126", after := #[], guard := none }) (v := ?_) rfl (by kernel_rfl) (by kernel_rfl) (by kernel_rfl) (fun _ _ _ h => h) (Or.inl ⟨by rfl, ?_⟩) hHeld ?_
          rotate_left
          · intro w hSw; go_simp; try with_reducible rfl
          rotate_left
          try simp only [Act.put, List.setIfInBounds_toArray, List.set_cons_zero, List.set_cons_succ]
          refine wpAnyH_take (i := 7) (oi := { dst := some 77, op := Go.Op.indexAddr 23 (Go.Operand.tmp 1) (Go.Operand.const (Go.Value.int Go.IntKind.i64 6)), type := 0, pos := "law.go:126", after := #[], guard := none }) (v := ?_) rfl (by kernel_rfl) (by kernel_rfl) (by kernel_rfl) (fun _ _ _ h => h) (Or.inl ⟨by rfl, ?_⟩) hHeld ?_
          rotate_left
          · intro w hSw; go_simp; try with_reducible rfl
          rotate_left
          try simp only [Act.put, List.setIfInBounds_toArray, List.set_cons_zero, List.set_cons_succ]
          refine wpAnyH_take (i := 8) (oi := { dst := some 78, op := Go.Op.load 3 (Go.Operand.tmp 77), type := 3, pos := "law.go:126", after := #[{ on := 7, ground := Go.Ground.data }], guard := none }) (v := ?_) rfl (by kernel_rfl) (by kernel_rfl) (by kernel_rfl) (fun _ _ _ h => h) (Or.inl ⟨by rfl, ?_⟩) hHeld ?_
          rotate_left
          · intro w hSw; go_simp; try with_reducible rfl
          rotate_left
          try simp only [Act.put, List.setIfInBounds_toArray, List.set_cons_zero, List.set_cons_succ]
          refine wpAnyH_take (i := 9) (oi := { dst := some 79, op := Go.Op.build 57 #[(0, Go.Operand.tmp 78)], type := 57, pos := "law.go:126", after := #[{ on := 8, ground := Go.Ground.data }], guard := none }) (v := ?_) rfl (by kernel_rfl) (by kernel_rfl) (by kernel_rfl) (fun _ _ _ h => h) (Or.inl ⟨by rfl, ?_⟩) hHeld ?_
          rotate_left
          · intro w hSw; go_simp; try with_reducible rfl
          rotate_left
          try simp only [Act.put, List.setIfInBounds_toArray, List.set_cons_zero, List.set_cons_succ]
          refine wpAnyH_ready (rs := [3]) (by kernel_rfl) (by simp) ?_
          refine AllReadyH.cons (o := { dst := some 73, op := Go.Op.call { callee := Go.Callee.value (Go.Operand.func 27), args := #[Go.Operand.tmp 71, Go.Operand.tmp 72], argTypes := #[33, 3] }, type := 3, pos := "law.go:126", after := #[{ on := 1, ground := Go.Ground.data }, { on := 2, ground := Go.Ground.data }], guard := none }) rfl (fun K hK => ?_) AllReadyH.nil
          go_simp
          refine (state_any C p m _ hL.drew.pl hr).mono ?_
          rintro r v1 ⟨rfl, q1⟩
          rw [V0.out]
          have hL2 := hL.drew.next q1
          go_wp2_with fail
          refine hK.out _ _ ⟨by rw [hL2.cell J (by omega), HVS.out], by rw [hL2.cell J3 (by omega), HLV.out], hL2.bx.thir.c6⟩ (fun hHeld => ?_)
          clear hK K
          try simp only [Act.put, List.setIfInBounds_toArray, List.set_cons_zero, List.set_cons_succ]
          refine wpAnyH_take (i := 4) (oi := { dst := some 74, op := Go.Op.indexAddr 53 (Go.Operand.tmp 70) (Go.Operand.tmp 73), type := 0, pos := "law.go:126", after := #[{ on := 0, ground := Go.Ground.data }, { on := 3, ground := Go.Ground.data }], guard := none }) (v := ?_) rfl (by kernel_rfl) (by kernel_rfl) (by kernel_rfl) (fun _ _ _ h => h) (Or.inl ⟨by rfl, ?_⟩) hHeld ?_
          rotate_left
          · intro w hSw; go_simp; try with_reducible rfl
          rotate_left
          try simp only [Act.put, List.setIfInBounds_toArray, List.set_cons_zero, List.set_cons_succ]
          refine wpAnyH_take (i := 5) (oi := { dst := some 75, op := Go.Op.load 55 (Go.Operand.tmp 74), type := 55, pos := "law.go:126", after := #[{ on := 4, ground := Go.Ground.data }], guard := none }) (v := ?_) rfl (by kernel_rfl) (by kernel_rfl) (by kernel_rfl) (fun _ _ _ h => h) (Or.inl ⟨by rfl, ?_⟩) hHeld ?_
          rotate_left
          · intro w hSw; go_simp; try with_reducible rfl
          rotate_left
          try simp only [Act.put, List.setIfInBounds_toArray, List.set_cons_zero, List.set_cons_succ]
          refine wpAnyH_ready (rs := [6]) (by kernel_rfl) (by simp) ?_
          refine AllReadyH.cons (o := { dst := some 76, op := Go.Op.call { callee := Go.Callee.value (Go.Operand.func 39), args := #[Go.Operand.tmp 75], argTypes := #[55] }, type := 57, pos := "law.go:126", after := #[{ on := 5, ground := Go.Ground.data }, { on := 3, ground := Go.Ground.chain }], guard := none }) rfl (fun K hK => ?_) AllReadyH.nil
          go_simp
          refine (state_of st _ hstb).mono ?_
          rintro r v2 ⟨rfl, q2⟩
          rw [HSG.out, HST.out, HSS.out]
          have hL3 := hL2.next q2
          go_wp2_with fail
          refine hK.out _ _ ⟨by rw [hL3.cell J (by omega), HVS.out], by rw [hL3.cell J3 (by omega), HLV.out], hL3.bx.thir.c6⟩ (fun hHeld => ?_)
          clear hK K
          try simp only [Act.put, List.setIfInBounds_toArray, List.set_cons_zero, List.set_cons_succ]
          refine wpAnyH_take (i := 10) (oi := { dst := some 80, op := Go.Op.binOp Go.BinOp.neq 57 (Go.Operand.tmp 76) (Go.Operand.tmp 79) 57, type := 4, pos := "law.go:126", after := #[{ on := 6, ground := Go.Ground.data }, { on := 9, ground := Go.Ground.data }], guard := none }) (v := ?_) rfl (by kernel_rfl) (by kernel_rfl) (by kernel_rfl) (fun _ _ _ h => h) (Or.inl ⟨by rfl, ?_⟩) hHeld ?_
          rotate_left
          · intro w hSw; go_simp; try with_reducible rfl
          rotate_left
          try simp only [Act.put, List.setIfInBounds_toArray, List.set_cons_zero, List.set_cons_succ]
          refine wpAnyH_take (i := 11) (oi := { dst := some 81, op := Go.Op.move (Go.Operand.tmp 80), type := 4, pos := "law.go:126", after := #[{ on := 10, ground := Go.Ground.data }, { on := 6, ground := Go.Ground.chain }], guard := none }) (v := ?_) rfl (by kernel_rfl) (by kernel_rfl) (by kernel_rfl) (fun _ _ _ h => h) (Or.inl ⟨by rfl, ?_⟩) hHeld ?_
          rotate_left
          · intro w hSw; go_simp; try with_reducible rfl
          rotate_left
          try simp only [Act.put, List.setIfInBounds_toArray, List.set_cons_zero, List.set_cons_succ]
          refine wpAnyH_take (i := 12) (oi := { dst := some 82, op := Go.Op.move (Go.Operand.tmp 6), type := 53, pos := "law.go:126", after := #[{ on := 11, ground := Go.Ground.guard }], guard := some (11, false) }) (v := ?_) rfl (by kernel_rfl) (by kernel_rfl) (by kernel_rfl) (fun _ _ _ h => h) (Or.inl ⟨by rfl, ?_⟩) hHeld ?_
          rotate_left
          · intro w hSw; go_simp; try with_reducible rfl
          rotate_left
          try simp only [Act.put, List.setIfInBounds_toArray, List.set_cons_zero, List.set_cons_succ]
          refine wpAnyH_take (i := 13) (oi := { dst := some 83, op := Go.Op.move (Go.Operand.tmp 3), type := 33, pos := "law.go:126", after := #[{ on := 11, ground := Go.Ground.guard }], guard := some (11, false) }) (v := ?_) rfl (by kernel_rfl) (by kernel_rfl) (by kernel_rfl) (fun _ _ _ h => h) (Or.inl ⟨by rfl, ?_⟩) hHeld ?_
          rotate_left
          · intro w hSw; go_simp; try with_reducible rfl
          rotate_left
          try simp only [Act.put, List.setIfInBounds_toArray, List.set_cons_zero, List.set_cons_succ]
          refine wpAnyH_take (i := 14) (oi := { dst := some 84, op := Go.Op.move (Go.Operand.tmp 7), type := 3, pos := "law.go:126", after := #[{ on := 11, ground := Go.Ground.guard }], guard := some (11, false) }) (v := ?_) rfl (by kernel_rfl) (by kernel_rfl) (by kernel_rfl) (fun _ _ _ h => h) (Or.inl ⟨by rfl, ?_⟩) hHeld ?_
          rotate_left
          · intro w hSw; go_simp; try with_reducible rfl
          rotate_left
          try simp only [Act.put, List.setIfInBounds_toArray, List.set_cons_zero, List.set_cons_succ]
          refine wpAnyH_take (i := 18) (oi := { dst := some 88, op := Go.Op.move (Go.Operand.tmp 8), type := 55, pos := "law.go:126", after := #[{ on := 11, ground := Go.Ground.guard }], guard := some (11, false) }) (v := ?_) rfl (by kernel_rfl) (by kernel_rfl) (by kernel_rfl) (fun _ _ _ h => h) (Or.inl ⟨by rfl, ?_⟩) hHeld ?_
          rotate_left
          · intro w hSw; go_simp; try with_reducible rfl
          rotate_left
          try simp only [Act.put, List.setIfInBounds_toArray, List.set_cons_zero, List.set_cons_succ]
          refine wpAnyH_ready (rs := [15]) (by kernel_rfl) (by simp) ?_
          refine AllReadyH.cons (o := { dst := some 85, op := Go.Op.call { callee := Go.Callee.value (Go.Operand.func 30), args := #[Go.Operand.tmp 83, Go.Operand.tmp 84], argTypes := #[33, 3] }, type := 3, pos := "law.go:126", after := #[{ on := 13, ground := Go.Ground.data }, { on := 14, ground := Go.Ground.data }, { on := 11, ground := Go.Ground.chain }, { on := 11, ground := Go.Ground.guard }], guard := some (11, false) }) rfl (fun K hK => ?_) AllReadyH.nil
          go_simp
          refine (nodeLink_any C p m _ hL3.pl hr).mono ?_
          rintro r v3 ⟨rfl, q3⟩
          rw [V3.out]
          have hL4 := hL3.next q3
          go_wp2_with fail
          refine hK.out _ _ ⟨by rw [hL4.cell J (by omega), HVS.out], by rw [hL4.cell J3 (by omega), HLV.out], hL4.bx.thir.c6⟩ (fun hHeld => ?_)
          clear hK K
          try simp only [Act.put, List.setIfInBounds_toArray, List.set_cons_zero, List.set_cons_succ]
          refine wpAnyH_take (i := 16) (oi := { dst := some 86, op := Go.Op.indexAddr 53 (Go.Operand.tmp 82) (Go.Operand.tmp 85), type := 0, pos := "law.go:126", after := #[{ on := 12, ground := Go.Ground.data }, { on := 15, ground := Go.Ground.data }, { on := 11, ground := Go.Ground.guard }], guard := some (11, false) }) (v := ?_) rfl (by kernel_rfl) (by kernel_rfl) (by kernel_rfl) (fun _ _ _ h => h) (Or.inl ⟨by rfl, ?_⟩) hHeld ?_
          rotate_left
          · intro w hSw; go_simp; try with_reducible rfl
          rotate_left
          try simp only [Act.put, List.setIfInBounds_toArray, List.set_cons_zero, List.set_cons_succ]
          refine wpAnyH_take (i := 17) (oi := { dst := some 87, op := Go.Op.load 55 (Go.Operand.tmp 86), type := 55, pos := "law.go:126", after := #[{ on := 16, ground := Go.Ground.data }, { on := 11, ground := Go.Ground.guard }], guard := some (11, false) }) (v := ?_) rfl (by kernel_rfl) (by kernel_rfl) (by kernel_rfl) (fun _ _ _ h => h) (Or.inl ⟨by rfl, ?_⟩) hHeld ?_
          rotate_left
          · intro w hSw; go_simp; try with_reducible rfl
          rotate_left
          try simp only [Act.put, List.setIfInBounds_toArray, List.set_cons_zero, List.set_cons_succ]
          refine wpAnyH_take (i := 19) (oi := { dst := some 89, op := Go.Op.binOp Go.BinOp.neq 55 (Go.Operand.tmp 87) (Go.Operand.tmp 88) 55, type := 4, pos := "law.go:126", after := #[{ on := 17, ground := Go.Ground.data }, { on := 18, ground := Go.Ground.data }, { on := 11, ground := Go.Ground.guard }], guard := some (11, false) }) (v := ?_) rfl (by kernel_rfl) (by kernel_rfl) (by kernel_rfl) (fun _ _ _ h => h) (Or.inl ⟨by rfl, ?_⟩) hHeld ?_
          rotate_left
          · intro w hSw; go_simp; try with_reducible rfl
          rotate_left
          try simp only [Act.put, List.setIfInBounds_toArray, List.set_cons_zero, List.set_cons_succ]
          refine wpAnyH_take (i := 20) (oi := { dst := some 90, op := Go.Op.pick (Go.Operand.tmp 81) (Go.Operand.const (Go.Value.bool true)) (Go.Operand.tmp 89), type := 4, pos := "law.go:126", after := #[{ on := 11, ground := Go.Ground.data }, { on := 19, ground := Go.Ground.data }], guard := none }) (v := ?_) rfl (by kernel_rfl) (by kernel_rfl) (by kernel_rfl) (fun _ _ _ h => h) (Or.inl ⟨by rfl, ?_⟩) hHeld ?_
          rotate_left
          · intro w hSw; go_simp; try with_reducible rfl
          rotate_left
          try simp only [Act.put, List.setIfInBounds_toArray, List.set_cons_zero, List.set_cons_succ]
          refine wpAnyH_done (by kernel_rfl) ?_ _
          clear hL hL2 hL3 q1 q2 q3 hHeld x0 x3 g3 g6
          go_wp2_with fail
          refine (state_any C p m _ hL4.pl hr).mono ?_
          rintro r v4 ⟨rfl, q4⟩
          rw [V0.out]
          have hL5 := hL4.next q4
          go_wp2_with fail
          refine (nodeLink_any C p m _ hL5.pl hr).mono ?_
          rintro r v5 ⟨rfl, q5⟩
          rw [V3.out]
          have hL6 := hL5.next q5
          have y0 := hL6.cell J (by omega)
          have z0 := hL6.al.frozen J
          have y3 := (hL6.set J 0).cell J3 (by omega)
          have z3 := (hL6.set J 0).al.frozen J3
          have hL7 := (hL6.set J 0).set J3 0
          rw [HNX.out] at hL7
          clear hL4 hL5 hL6 q4 q5
          go_wp2
          go_roundw
          case rel => exact ⟨m + 1, by omega, by go_num, hL7⟩
          case measure => simp [intOf]; omega
      · obtain rfl : N = m := by omega
        have e4 := hL.bx.thir.c4
        rw [HN.out.t] at e4
        go_wp2_with fail
        go_loopw [104] (fun a u => ∃ t : Nat, t ≤ T ∧ a = .int .i64 t ∧ LawAt w B G q c p C Z F (fr A Bt T st 1 1 N (N - 1) N t (T - 1)) u) (fun a _ => T - (intOf a).toNat)
        case atStart => exact ⟨0, by omega, rfl, hL⟩
        case round =>
          clear hL e4
          obtain ⟨t, ht, rfl, hL⟩ := hrel
          by_cases hlt : t < T
          · obtain ⟨J, hJ⟩ : ∃ J, J = Bt + t * 3 + 2 := ⟨_, rfl⟩
            have hJ0 : (J : Int) < Z := by omega
            have V2 := Lib.hid (show plTick C t 2 = J by rw [HN.out.tick t hlt, hJ, HBq.out, HA.out]; push_cast; omega)
            obtain ⟨lv, hlv⟩ : ∃ lv, fr A Bt T st 1 1 N (N - 1) N t (T - 1) J = lv := ⟨_, rfl⟩
            have hcn : (((t : Int) == (T : Int) - 1) = true ∧ lv = 0) ∨ (((t : Int) == (T : Int) - 1) = false ∧ lv = (t : Int) + 2) := by
              rw [← hlv, hJ]
              by_cases h : t = T - 1
              · exact .inl ⟨beq_iff_eq.2 (by omega), fr_at_tlast (N := N) hA3 HBq.out hlt (by omega)⟩
              · exact .inr ⟨beq_eq_false_iff_ne.2 (by omega), fr_at_tick (N := N) hA3 HBq.out hlt (by omega)⟩
            have HNX := Lib.hid (show upd (fr A Bt T st 1 1 N (N - 1) N t (T - 1)) J 0 = fr A Bt T st 1 1 N (N - 1) N (t + 1) (T - 1) by rw [hJ]; exact fr_ticket (N := N) hA3 HBq.out hlt)
            generalize fr A Bt T st 1 1 N (N - 1) N t (T - 1) = f at *
            have HLV := Lib.hid hlv
            clear hlv hJ
            have g4 := hL.bx.thir.c4
            rw [HN.out.t] at g4
            rcases hcn with ⟨hc1, hc2⟩ | ⟨hc1, hc2⟩
            all_goals
              subst hc2
              go_wp2_with fail
              refine (ticketLink_any C p t _ hL.pl hr).mono ?_
              rintro r v1 ⟨rfl, q1⟩
              rw [V2.out]
              have hL2 := hL.next q1
              have x0 := hL2.cell J (by omega)
              rw [HLV.out] at x0
              go_wp2_with fail
              refine (ticketLink_any C p t _ hL2.pl hr).mono ?_
              rintro r v2 ⟨rfl, q2⟩
              rw [V2.out]
              have hL3 := hL2.next q2
              have y0 := hL3.cell J (by omega)
              have z0 := hL3.al.frozen J
              have hL4 := hL3.set J 0
              rw [HNX.out] at hL4
              clear hL hL2 hL3 x0 q1 q2
              go_wp2
              go_roundw
              case rel => exact ⟨t + 1, by omega, by go_num, hL4⟩
              case measure => simp [intOf]; omega
          · obtain rfl : T = t := by omega
            have HEND := Lib.hid (show upd (upd (fr A Bt T st 1 1 N (N - 1) N T (T - 1)) 1 0) 2 0 = fr A Bt T st 0 0 N (N - 1) N T (T - 1) by rw [fr_head1, fr_head2])
            have v1 : fr A Bt T st 1 1 N (N - 1) N T (T - 1) 1 = 1 := rfl
            have v2 : fr A Bt T st 1 1 N (N - 1) N T (T - 1) 2 = 1 := rfl
            have HZE := Lib.hid (fun i : Nat => (show fr A Bt T st 0 0 N (N - 1) N T (T - 1) i = 0 from fr_end (N := N) hA3 HBq.out (by omega) (Nat.le_refl _) (by omega)))
            generalize fr A Bt T st 1 1 N (N - 1) N T (T - 1) = f at *
            generalize fr A Bt T st 0 0 N (N - 1) N T (T - 1) = f0 at *
            have HV1 := Lib.hid v1
            have HV2 := Lib.hid v2
            clear v1 v2
            have x1 := hL.cell 1 (by omega)
            rw [HV1.out] at x1
            have hz1 : (1 : Int) < Z := by omega
            have hz2 : (2 : Int) < Z := by omega
            go_wp2_with fail
            refine (nodes_any _ _).mono ?_
            rintro r u ⟨rfl, rfl⟩
            go_wp2_with fail
            refine (head_of 1 _ ⟨by omega, by omega⟩).mono ?_
            rintro r u1 ⟨rfl, q1⟩
            rw [get_count, get_index]
            have hL2 := hL.next q1
            have x2 := hL2.cell 2 (by omega)
            rw [HV2.out] at x2
            clear q1 hL x1
            go_wp2_with fail
            refine (tickets_any _ _).mono ?_
            rintro r u ⟨rfl, rfl⟩
            go_wp2_with fail
            refine (head_of 1 _ ⟨by omega, by omega⟩).mono ?_
            rintro r u2 ⟨rfl, q2⟩
            rw [get_count, get_index]
            have hL3 := hL2.next q2
            clear q2 hL2 x2
            go_wp2_with fail
            refine (nodes_any _ _).mono ?_
            rintro r u ⟨rfl, rfl⟩
            go_wp2_with fail
            refine (tickets_any _ _).mono ?_
            rintro r u ⟨rfl, rfl⟩
            have y1 := hL3.cell 1 (by omega)
            have z1 := hL3.al.frozen 1
            have y2 := (hL3.set 1 0).cell 2 (by omega)
            have z2 := (hL3.set 1 0).al.frozen 2
            have hL4 := (hL3.set 1 0).set 2 0
            rw [HEND.out] at hL4
            go_upto_region 33 with (fail)
            clear y1 z1 y2 z2 hL3
            generalize (u2.setCell ⟨G, 1, none⟩ (.int .u64 0)).setCell ⟨G, 2, none⟩ (.int .u64 0) = u3 at *
            go_wp2_with fail
            go_loop [157] (fun a => ∃ i : Nat, i ≤ Z ∧ a = .int .i64 i) (fun a => Z - (intOf a).toNat)
            case atStart => exact ⟨0, by omega, rfl⟩
            case round =>
              obtain ⟨i, hi, rfl⟩ := hrel
              by_cases hil : i < Z
              · have x := hL4.cell i hil
                rw [HZE.out i] at x
                go_wp2
                go_round
                case rel => exact ⟨i + 1, by omega, by go_num⟩
                case measure => simp [intOf]; omega
              · go_wp2_with fail
                refine (fresh_any C p _ hL4.pl hr W L S E N T X A Bt Z HN.out HA.out HBq.out HZq.out).mono ?_
                rintro r u4 ⟨q2, c2, rfl, har2, hq2, hc2, b4⟩
                have hL5 := hL4.next b4
                have nq : q ∉ [q2, c2] ∧ c ∉ [q2, c2] := by
                  have h1 := hL4.ar.head.lt
                  have h2 := hL4.ar.body.lt
                  simp
                  omega
                have hBq : B ≤ q2 ∧ B ≤ c2 := by have := hL4.bx.lt; omega
                clear b4 hL4 hq2 hc2
                go_wp2_with fail
                refine (clock_any _ _).mono ?_
                rintro r u ⟨rfl, rfl⟩
                go_wp2_with fail
                refine (store_any 0 5 (by simp [N64]) har2 (by omega)).mono ?_
                rintro r u5 ⟨rfl, h5⟩
                have har6 := hL5.ar.turn h5.2 nq.1 nq.2
                have be6 := hL5.be.trans (h5.2.below (B := B) (by simp; omega) (Nat.le_of_lt hL5.bx.lt))
                clear h5 hL5 har2 nq
                go_wp2_with fail
                refine (clock_any _ _).mono ?_
                rintro r u ⟨rfl, rfl⟩
                go_wp2_with fail
                refine (load_any 0 har6 (by omega)).mono ?_
                rintro r u6 ⟨rfl, h6⟩
                rw [show getA (nl Z F) 0 = 0 by rw [show (0 : Int) = ((0 : Nat) : Int) from rfl, nl_getA (by omega)]; exact HF0.out]
                have hqB : ∀ k, k ∈ [q, c] → B ≤ k := HQC.out
                have be7 := be6.trans (h6.2.below hqB (by have := be6.size; have := HBS.out; omega))
                clear h6 hqB
                go_wp2
                go_ret
                exact ⟨rfl, by rw [HBE.out]; exact be7⟩

theorem fresh_law (C : Nat → Int) (w : World) (ht : Tab w) :
    Calls Tryd.prog 6 #[.agg (ic C)] w fun r w' => r = .returned (.bool true) ∧ Below w.heap.size w w' := by
  rcases Classical.em (Right C) with hr | hr
  · exact fresh_yes C w ht hr
  · exact fresh_no C w ht hr

end Go.Proofs.YtgbepebihlmedaaDoor
