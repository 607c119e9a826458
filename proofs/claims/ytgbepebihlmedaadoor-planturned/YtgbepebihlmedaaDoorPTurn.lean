/- The law: of a configuration that may be, one number of which is turned, either nothing is told, or just that number's place. -/
import Derived.Test.YtgbepebihlmedaaDoorP10
set_option linter.unusedSimpArgs false
namespace Go.Proofs.YtgbepebihlmedaaDoor
open Go.RowKit

set_option maxRecDepth 100000 in
set_option maxHeartbeats 2000000 in
theorem turned_law (C : Nat → Int) (a v : Int) (w : World) (ht : Tab w) (ha : 0 ≤ a ∧ a ≤ 255) :
    Calls Tryd.prog 7 #[.agg (ic C), .int .u8 a, .int .i64 v] w fun r w' => r = .returned (.bool true) ∧ Below w.heap.size w w' := by
  obtain ⟨l0, b0, t0⟩ := boxed3 C w ht 23
  have h0 : Box w w.heap.size C (w.alloc (.cells (ic C) 23)) := ⟨l0, b0, t0⟩
  clear l0 b0 t0
  by_cases hr : Right C
  · obtain ⟨j, hj⟩ : ∃ j : Nat, a % 13 = j := ⟨(a % 13).toNat, by omega⟩
    have hj13 : j < 13 := by omega
    have HJ := Lib.hid hj
    clear hj
    go_enter Tryd.func7, Tryd.ntmps7
    go_wp2_with fail
    generalize hBe : w.heap.size = B at *
    have HBE := Lib.hid hBe
    clear hBe
    generalize w.alloc (.cells (ic C) 23) = w0 at *
    refine (speaks3_any _ h0.t).mono ?_
    rintro r w1 ⟨rfl, b1⟩
    have h1 := h0.next b1
    clear b1 h0
    obtain ⟨d0, d1, d2, d3, d4, d5, d6, d7, d8, d9, d10, d11, d12⟩ := h1.l.thir
    go_wp2_with fail
    refine (right_yes C _ hr).mono ?_
    rintro r w2 ⟨rfl, b2⟩
    have h2 := h1.next b2
    clear b2 h1 d0 d1 d2 d3 d4 d5 d6 d7 d8 d9 d10 d11 d12
    obtain ⟨d0, d1, d2, d3, d4, d5, d6, d7, d8, d9, d10, d11, d12⟩ := h2.l.thir
    go_wp2_with fail
    refine (lawof_any C _).mono ?_
    rintro r w3 ⟨rfl, b3⟩
    have h3 := h2.next b3
    clear b3 h2 d0 d1 d2 d3 d4 d5 d6 d7 d8 d9 d10 d11 d12
    go_wp2_with fail
    refine (list_any C _).mono ?_
    rintro r w4 ⟨rfl, b4⟩
    have h4 := h3.next b4
    clear b4 h3
    rw [HJ.out]
    have HT := Lib.hid (there_cfg (Lies.new w4 22 #[.int .i64 0, .int .i64 0, .int .i64 0, .int .i64 0, .int .i64 0, .int .i64 0, .int .i64 0, .int .i64 0, .int .i64 0, .int .i64 0, .int .i64 0, .int .i64 0, .int .i64 0]) rfl)
    have HS := Lib.hid arr_size
    go_upto_region 5 with (first
      | ((with_reducible refine wpList_cstore (b := w4.heap.size) C 22 rfl (.tmp 8) (.tmp 25) rfl ?_ ?_ HT.out HS.out ?_)
         · rfl
         · rfl)
      | fail)
    have l5 := (Lies.new w4 22 #[.int .i64 0, .int .i64 0, .int .i64 0, .int .i64 0, .int .i64 0, .int .i64 0, .int .i64 0, .int .i64 0, .int .i64 0, .int .i64 0, .int .i64 0, .int .i64 0, .int .i64 0]).cfg rfl C
    have u5 := (Lies.overs (icl C) 0 _ _ (Lies.new w4 22 #[.int .i64 0, .int .i64 0, .int .i64 0, .int .i64 0, .int .i64 0, .int .i64 0, .int .i64 0, .int .i64 0, .int .i64 0, .int .i64 0, .int .i64 0, .int .i64 0, .int .i64 0])).2.1
    have h5 := (h4.next ((Below.refl _ _).alloc (Nat.le_refl _) (.cells #[.int .i64 0, .int .i64 0, .int .i64 0, .int .i64 0, .int .i64 0, .int .i64 0, .int .i64 0, .int .i64 0, .int .i64 0, .int .i64 0, .int .i64 0, .int .i64 0, .int .i64 0] 22))).turn u5 (by simp; exact h4.l.lt)
    have hBL : B < w4.heap.size := h4.l.lt
    clear HT h4 u5
    generalize (w4.alloc (.cells #[.int .i64 0, .int .i64 0, .int .i64 0, .int .i64 0, .int .i64 0, .int .i64 0, .int .i64 0, .int .i64 0, .int .i64 0, .int .i64 0, .int .i64 0, .int .i64 0, .int .i64 0] 22)).setCells w4.heap.size 0 (icl C) = w5 at *
    generalize w4.heap.size = L at *
    rcases turned_chk hr hj13 v with ⟨hI, hE⟩ | ⟨hI, hE⟩
    all_goals
      have HI := Lib.hid hI
      have HE := Lib.hid hE
      clear hI hE
      have cj := (l5.cell j).trans (ic_at C j hj13)
      have fj := l5.frozen j
      go_upto_region 7 with (fail)
      have l6 := l5.set j (.int .i64 v)
      rw [ic_set C j hj13] at l6
      have h6 := h5.turn (L := [L]) ((Turns.refl _ _).setCell (p := ⟨L, j, none⟩) (.inl (by simp)) (.int .i64 v)) (by simp; exact hBL)
      clear l5 h5 cj fj
      generalize w5.setCell ⟨L, j, none⟩ (.int .i64 v) = w6 at *
      have UB := Lib.hid (upd_back C j v)
      generalize hD : upd C j v = D at *
      clear hD
      obtain ⟨d0, d1, d2, d3, d4, d5, d6, d7, d8, d9, d10, d11, d12⟩ := l6.thir
      go_wp2_with fail
      refine (of_cfg D _).mono ?_
      rintro r w7 ⟨rfl, b7⟩
      have h7 := h6.next b7
      have l7 := l6.below b7 l6.lt
      clear b7 h6 l6 d0 d1 d2 d3 d4 d5 d6 d7 d8 d9 d10 d11 d12
      go_wp2_with fail
      refine (check_any D _ h7.t).mono ?_
      rintro r w8 ⟨rfl, b8⟩
      have h8 := h7.next b8
      have l8 := l7.below b8 l7.lt
      clear b8 h7 l7
      rw [HI.out, HE.out]
      have cj := (l8.cell j).trans (ic_at D j hj13)
      have fj := l8.frozen j
      go_upto_region 11 with (fail)
      have l9 := l8.set j (.int .i64 (C j))
      rw [ic_set D j hj13, UB.out] at l9
      have h9 := h8.turn (L := [L]) ((Turns.refl _ _).setCell (p := ⟨L, j, none⟩) (.inl (by simp)) (.int .i64 (C j))) (by simp; exact hBL)
      clear l8 h8 cj fj
      generalize w8.setCell ⟨L, j, none⟩ (.int .i64 (C j)) = w9 at *
      obtain ⟨d0, d1, d2, d3, d4, d5, d6, d7, d8, d9, d10, d11, d12⟩ := l9.thir
      go_wp2_with fail
      refine (of_cfg C _).mono ?_
      rintro r w10 ⟨rfl, b10⟩
      have h10 := h9.next b10
      have l10 := l9.below b10 l9.lt
      clear b10 h9 l9 d0 d1 d2 d3 d4 d5 d6 d7 d8 d9 d10 d11 d12
      go_wp2_with fail
      refine (check_any C _ h10.t).mono ?_
      rintro r w11 ⟨rfl, b11⟩
      have h11 := h10.next b11
      have l11 := l10.below b11 l10.lt
      clear b11 h10 l10
      rw [(chk_ok hr).2]
      have hEq := eql_cfg C
      have HSR := Lib.hid (icl_size C)
      have HSC := Lib.hid (icl_arr C)
      go_wp2_with fail
      refine wp_region_held_drew (S := fun W => Lies W L 22 (ic C) ∧ Lies W B 23 (ic C)) (by kernel_rfl) ⟨l11.drew, h11.l.drew⟩ (fun hHeld => ?_)
      refine wpAnyH_take (i := 0) (oi := { dst := some 66, op := Go.Op.move (Go.Operand.tmp 11), type := 28, pos := "law.go:170", after := #[], guard := none }) (v := ?_) rfl (by kernel_rfl) (by kernel_rfl) (by kernel_rfl) (fun _ _ _ h => h) (Or.inl ⟨by rfl, ?_⟩) hHeld ?_
      rotate_left
      · intro w hSw; go_simp; try with_reducible rfl
      rotate_left
      try simp only [Act.put, List.setIfInBounds_toArray, List.set_cons_zero, List.set_cons_succ]
      refine wpAnyH_take (i := 1) (oi := { dst := some 67, op := Go.Op.binOp Go.BinOp.eql 28 (Go.Operand.tmp 66) (Go.Operand.const (Go.Value.int Go.IntKind.i64 0)) 28, type := 4, pos := "law.go:170", after := #[{ on := 0, ground := Go.Ground.data }], guard := none }) (v := ?_) rfl (by kernel_rfl) (by kernel_rfl) (by kernel_rfl) (fun _ _ _ h => h) (Or.inl ⟨by rfl, ?_⟩) hHeld ?_
      rotate_left
      · intro w hSw; go_simp; try with_reducible rfl
      rotate_left
      try simp only [Act.put, List.setIfInBounds_toArray, List.set_cons_zero, List.set_cons_succ]
      refine wpAnyH_take (i := 2) (oi := { dst := some 68, op := Go.Op.move (Go.Operand.tmp 67), type := 4, pos := "law.go:170", after := #[{ on := 1, ground := Go.Ground.data }], guard := none }) (v := ?_) rfl (by kernel_rfl) (by kernel_rfl) (by kernel_rfl) (fun _ _ _ h => h) (Or.inl ⟨by rfl, ?_⟩) hHeld ?_
      rotate_left
      · intro w hSw; go_simp; try with_reducible rfl
      rotate_left
      try simp only [Act.put, List.setIfInBounds_toArray, List.set_cons_zero, List.set_cons_succ]
      refine wpAnyH_take (i := 3) (oi := { dst := some 69, op := Go.Op.load 22 (Go.Operand.tmp 8), type := 22, pos := "law.go:170", after := #[{ on := 2, ground := Go.Ground.guard }], guard := some (2, true) }) (v := .agg (ic C)) rfl (by kernel_rfl) (by kernel_rfl) (by kernel_rfl) (fun _ _ _ h => h) (yieldsIf_load_mid (by rfl) 22 (.tmp 8) rfl L 0 rfl (icl C) _ (fun _ h => h.1.range) Tryd.underlying22 rfl HSC.out) hHeld ?_
      try simp only [Act.put, List.setIfInBounds_toArray, List.set_cons_zero, List.set_cons_succ]
      refine wpAnyH_take (i := 5) (oi := { dst := some 71, op := Go.Op.load 23 (Go.Operand.tmp 3), type := 23, pos := "law.go:170", after := #[{ on := 2, ground := Go.Ground.guard }], guard := some (2, true) }) (v := .agg (ic C)) rfl (by kernel_rfl) (by kernel_rfl) (by kernel_rfl) (fun _ _ _ h => h) (yieldsIf_load_mid (by rfl) 23 (.tmp 3) rfl B 0 rfl (icl C) _ (fun _ h => h.2.range) Tryd.underlying23 rfl HSR.out) hHeld ?_
      try simp only [Act.put, List.setIfInBounds_toArray, List.set_cons_zero, List.set_cons_succ]
      refine wpAnyH_ready (rs := [4]) (by kernel_rfl) (by simp) ?_
      refine AllReadyH.cons (o := { dst := some 70, op := Go.Op.call { callee := Go.Callee.value (Go.Operand.func 14), args := #[Go.Operand.tmp 69], argTypes := #[22] }, type := 26, pos := "law.go:170", after := #[{ on := 3, ground := Go.Ground.data }, { on := 2, ground := Go.Ground.chain }, { on := 2, ground := Go.Ground.guard }], guard := some (2, true) }) rfl (fun K hK => ?_) AllReadyH.nil
      go_simp
      refine (of_cfg C _).mono ?_
      rintro r w12 ⟨rfl, b12⟩
      have b12' : Below w11.heap.size w11 w12 := ⟨b12.os, b12.tape, b12.output, b12.size, b12.block⟩
      have h12 := h11.next b12'
      have l12 := l11.below b12' l11.lt
      go_wp2_with fail
      refine hK.out _ _ ⟨l12, h12.l⟩ (fun hHeld => ?_)
      clear hK K
      try simp only [Act.put, List.setIfInBounds_toArray, List.set_cons_zero, List.set_cons_succ]
      refine wpAnyH_ready (rs := [6]) (by kernel_rfl) (by simp) ?_
      refine AllReadyH.cons (o := { dst := some 72, op := Go.Op.call { callee := Go.Callee.value (Go.Operand.func 9), args := #[Go.Operand.tmp 71], argTypes := #[23] }, type := 26, pos := "law.go:170", after := #[{ on := 5, ground := Go.Ground.data }, { on := 4, ground := Go.Ground.chain }, { on := 2, ground := Go.Ground.guard }], guard := some (2, true) }) rfl (fun K hK => ?_) AllReadyH.nil
      go_simp
      refine (lawof_any C _).mono ?_
      rintro r w13 ⟨rfl, b13⟩
      have h13 := h12.next b13
      have l13 := l12.below b13 l12.lt
      go_wp2_with fail
      refine hK.out _ _ ⟨l13, h13.l⟩ (fun hHeld => ?_)
      clear hK K
      try simp only [Act.put, List.setIfInBounds_toArray, List.set_cons_zero, List.set_cons_succ]
      refine wpAnyH_take (i := 7) (oi := { dst := some 73, op := Go.Op.binOp Go.BinOp.eql 26 (Go.Operand.tmp 70) (Go.Operand.tmp 72) 26, type := 4, pos := "law.go:170", after := #[{ on := 4, ground := Go.Ground.data }, { on := 6, ground := Go.Ground.data }, { on := 2, ground := Go.Ground.guard }], guard := some (2, true) }) (v := ?_) rfl (by kernel_rfl) (by kernel_rfl) (by kernel_rfl) (fun _ _ _ h => h) (Or.inl ⟨by rfl, ?_⟩) hHeld ?_
      rotate_left
      · intro w hSw; go_simp; try with_reducible rfl
      rotate_left
      try simp only [Act.put, List.setIfInBounds_toArray, List.set_cons_zero, List.set_cons_succ]
      refine wpAnyH_take (i := 8) (oi := { dst := some 74, op := Go.Op.pick (Go.Operand.tmp 68) (Go.Operand.tmp 73) (Go.Operand.const (Go.Value.bool false)), type := 4, pos := "law.go:170", after := #[{ on := 2, ground := Go.Ground.data }, { on := 7, ground := Go.Ground.data }], guard := none }) (v := ?_) rfl (by kernel_rfl) (by kernel_rfl) (by kernel_rfl) (fun _ _ _ h => h) (Or.inl ⟨by rfl, ?_⟩) hHeld ?_
      rotate_left
      · intro w hSw; go_simp; try with_reducible rfl
      rotate_left
      try simp only [Act.put, List.setIfInBounds_toArray, List.set_cons_zero, List.set_cons_succ]
      refine wpAnyH_take (i := 9) (oi := { dst := some 6, op := Go.Op.assign (Go.Operand.tmp 74), type := 4, pos := "law.go:170", after := #[{ on := 8, ground := Go.Ground.data }, { on := 6, ground := Go.Ground.chain }, { on := 0, ground := Go.Ground.phase }, { on := 1, ground := Go.Ground.phase }, { on := 2, ground := Go.Ground.phase }, { on := 3, ground := Go.Ground.phase }, { on := 4, ground := Go.Ground.phase }, { on := 5, ground := Go.Ground.phase }, { on := 6, ground := Go.Ground.phase }, { on := 7, ground := Go.Ground.phase }, { on := 8, ground := Go.Ground.phase }], guard := none }) (v := ?_) rfl (by kernel_rfl) (by kernel_rfl) (by kernel_rfl) (fun _ _ _ h => h) (Or.inl ⟨by rfl, ?_⟩) hHeld ?_
      rotate_left
      · intro w hSw; go_simp; try with_reducible rfl
      rotate_left
      try simp only [Act.put, List.setIfInBounds_toArray, List.set_cons_zero, List.set_cons_succ]
      refine wpAnyH_done (by kernel_rfl) ?_ _
      go_wp2
      go_ret
      exact ⟨rfl, by rw [HBE.out]; exact h13.be⟩
  · go_enter Tryd.func7, Tryd.ntmps7
    go_wp2_with fail
    generalize hBe : w.heap.size = B at *
    have HBE := Lib.hid hBe
    clear hBe
    generalize w.alloc (.cells (ic C) 23) = w0 at *
    refine (speaks3_any _ h0.t).mono ?_
    rintro r w1 ⟨rfl, b1⟩
    have h1 := h0.next b1
    clear b1 h0
    obtain ⟨d0, d1, d2, d3, d4, d5, d6, d7, d8, d9, d10, d11, d12⟩ := h1.l.thir
    go_wp2_with fail
    refine (right_no C _ hr).mono ?_
    rintro r w2 ⟨rfl, b2⟩
    have h2 := h1.next b2
    clear b2 h1 d0 d1 d2 d3 d4 d5 d6 d7 d8 d9 d10 d11 d12
    go_wp2_with fail
    refine (speaks3_any _ h2.t).mono ?_
    rintro r w3 ⟨rfl, b3⟩
    have h3 := h2.next b3
    clear b3 h2
    go_wp2
    go_ret
    exact ⟨rfl, by rw [HBE.out]; exact h3.be⟩

end Go.Proofs.YtgbepebihlmedaaDoor
