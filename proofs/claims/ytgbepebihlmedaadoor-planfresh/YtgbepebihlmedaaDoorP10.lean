/- The law: of a configuration that may be, one number of which is turned, either nothing is told, or just that number's place. -/
import Derived.Test.YtgbepebihlmedaaDoorP9
import Derived.Deep.DeepCutAuto
import Derived.Deep.CutBlock
namespace Go.Proofs.YtgbepebihlmedaaDoor
open Go.RowKit

theorem icl_arr (C : Nat → Int) : (Tryd.prog.info? 22).map (·.size) = some (icl C).length := by kernel_rfl
theorem arr_size : (Tryd.prog.info? 22).map (·.size) = some 13 := by kernel_rfl

/-- the configuration is boxed; the table stands. -/
theorem boxed3 (C : Nat → Int) (w : World) (ht : Tab w) (t : TypeId) : Lies (w.alloc (.cells (ic C) t)) w.heap.size t (ic C) ∧ Below w.heap.size w (w.alloc (.cells (ic C) t)) ∧ Tab (w.alloc (.cells (ic C) t)) :=
  ⟨Lies.new _ _ _, (Below.refl _ _).alloc (Nat.le_refl _) _, ht.keep ((Below.refl w.heap.size w).alloc (Nat.le_refl _) _) ht.lt⟩

/-- a call within: what lies at block B lies there still. -/
structure Box (w : World) (B : Nat) (C : Nat → Int) (W : World) : Prop where
  l : Lies W B 23 (ic C)
  be : Below B w W
  t : Tab W
theorem Box.next {w : World} {B : Nat} {C : Nat → Int} {W W' : World} (h : Box w B C W) (k : Below W.heap.size W W') : Box w B C W' :=
  ⟨h.l.below k h.l.lt, h.be.trans (k.mono (Nat.le_of_lt h.l.lt)), h.t.keep k h.t.lt⟩
theorem Box.turn {w : World} {B : Nat} {C : Nat → Int} {W W' : World} {L : List Nat} (h : Box w B C W) (k : Turns L W W') (hL : ∀ x, x ∈ L → B < x) : Box w B C W' := by
  have hb : Below (B + 1) W W' := k.below (fun x hx => hL x hx) h.l.lt
  exact ⟨h.l.below hb (by omega), h.be.trans (hb.mono (by omega)), h.t.keep hb (by omega)⟩

set_option maxRecDepth 100000 in
set_option maxHeartbeats 2000000 in
theorem turned_law (C : Nat → Int) (a v : Int) (w : World) (ht : Tab w) (ha : 0 ≤ a ∧ a ≤ 255) :
    Calls Tryd.prog 7 #[.agg (ic C), .int .u8 a, .int .i64 v] w fun r w' => r = .returned (.bool true) ∧ Below w.heap.size w w' := by
  obtain ⟨l0, b0, t0⟩ := boxed3 C w ht 23
  have h0 : Box w w.heap.size C (w.alloc (.cells (ic C) 23)) := ⟨l0, b0, t0⟩
  clear l0 b0 t0
  by_cases hr : Right C
  · obtain ⟨j, hj⟩ : ∃ j : Nat, a % 13 = j := ⟨(a % 13).toNat, by omega⟩
    have hj13 : j < 13 := by omega
    have HJ := Lib.hid hj
    clear hj
    go_enter Tryd.func7, Tryd.ntmps7
    go_wp2_with fail
    generalize hBe : w.heap.size = B at *
    have HBE := Lib.hid hBe
    clear hBe
    generalize w.alloc (.cells (ic C) 23) = w0 at *
    refine (speaks3_any _ h0.t).mono ?_
    rintro r w1 ⟨rfl, b1⟩
    have h1 := h0.next b1
    clear b1 h0
    obtain ⟨d0, d1, d2, d3, d4, d5, d6, d7, d8, d9, d10, d11, d12⟩ := h1.l.thir
    go_wp2_with fail
    refine (right_yes C _ hr).mono ?_
    rintro r w2 ⟨rfl, b2⟩
    have h2 := h1.next b2
    clear b2 h1 d0 d1 d2 d3 d4 d5 d6 d7 d8 d9 d10 d11 d12
    obtain ⟨d0, d1, d2, d3, d4, d5, d6, d7, d8, d9, d10, d11, d12⟩ := h2.l.thir
    go_wp2_with fail
    refine (lawof_any C _).mono ?_
    rintro r w3 ⟨rfl, b3⟩
    have h3 := h2.next b3
    clear b3 h2 d0 d1 d2 d3 d4 d5 d6 d7 d8 d9 d10 d11 d12
    go_wp2_with fail
    refine (list_any C _).mono ?_
    rintro r w4 ⟨rfl, b4⟩
    have h4 := h3.next b4
    clear b4 h3
    rw [HJ.out]
    have HT := Lib.hid (there_cfg (Lies.new w4 22 #[.int .i64 0, .int .i64 0, .int .i64 0, .int .i64 0, .int .i64 0, .int .i64 0, .int .i64 0, .int .i64 0, .int .i64 0, .int .i64 0, .int .i64 0, .int .i64 0, .int .i64 0]) rfl)
    have HS := Lib.hid arr_size
    go_upto_region 5 with (first
      | ((with_reducible refine wpList_cstore (b := w4.heap.size) C 22 rfl (.tmp 8) (.tmp 25) rfl ?_ ?_ HT.out HS.out ?_)
         · rfl
         · rfl)
      | fail)
    have l5 := (Lies.new w4 22 #[.int .i64 0, .int .i64 0, .int .i64 0, .int .i64 0, .int .i64 0, .int .i64 0, .int .i64 0, .int .i64 0, .int .i64 0, .int .i64 0, .int .i64 0, .int .i64 0, .int .i64 0]).cfg rfl C
    have u5 := (Lies.overs (icl C) 0 _ _ (Lies.new w4 22 #[.int .i64 0, .int .i64 0, .int .i64 0, .int .i64 0, .int .i64 0, .int .i64 0, .int .i64 0, .int .i64 0, .int .i64 0, .int .i64 0, .int .i64 0, .int .i64 0, .int .i64 0])).2.1
    have h5 := (h4.next ((Below.refl _ _).alloc (Nat.le_refl _) (.cells #[.int .i64 0, .int .i64 0, .int .i64 0, .int .i64 0, .int .i64 0, .int .i64 0, .int .i64 0, .int .i64 0, .int .i64 0, .int .i64 0, .int .i64 0, .int .i64 0, .int .i64 0] 22))).turn u5 (by simp; exact h4.l.lt)
    have hBL : B < w4.heap.size := h4.l.lt
    clear HT h4 u5
    generalize (w4.alloc (.cells #[.int .i64 0, .int .i64 0, .int .i64 0, .int .i64 0, .int .i64 0, .int .i64 0, .int .i64 0, .int .i64 0, .int .i64 0, .int .i64 0, .int .i64 0, .int .i64 0, .int .i64 0] 22)).setCells w4.heap.size 0 (icl C) = w5 at *
    generalize w4.heap.size = L at *
    rcases turned_chk hr hj13 v with ⟨hI, hE⟩ | ⟨hI, hE⟩
    all_goals
      have HI := Lib.hid hI
      have HE := Lib.hid hE
      clear hI hE
      have cj := (l5.cell j).trans (ic_at C j hj13)
      have fj := l5.frozen j
      go_upto_region 7 with (fail)
      have l6 := l5.set j (.int .i64 v)
      rw [ic_set C j hj13] at l6
      have h6 := h5.turn (L := [L]) ((Turns.refl _ _).setCell (p := ⟨L, j, none⟩) (.inl (by simp)) (.int .i64 v)) (by simp; exact hBL)
      clear l5 h5 cj fj
      generalize w5.setCell ⟨L, j, none⟩ (.int .i64 v) = w6 at *
      have UB := Lib.hid (upd_back C j v)
      generalize hD : upd C j v = D at *
      clear hD
      obtain ⟨d0, d1, d2, d3, d4, d5, d6, d7, d8, d9, d10, d11, d12⟩ := l6.thir
      go_wp2_with fail
      refine (of_cfg D _).mono ?_
      rintro r w7 ⟨rfl, b7⟩
      have h7 := h6.next b7
      have l7 := l6.below b7 l6.lt
      clear b7 h6 l6 d0 d1 d2 d3 d4 d5 d6 d7 d8 d9 d10 d11 d12
      go_wp2_with fail
      refine (check_any D _ h7.t).mono ?_
      rintro r w8 ⟨rfl, b8⟩
      have h8 := h7.next b8
      have l8 := l7.below b8 l7.lt
      clear b8 h7 l7
      rw [HI.out, HE.out]
      have cj := (l8.cell j).trans (ic_at D j hj13)
      have fj := l8.frozen j
      go_upto_region 11 with (fail)
      have l9 := l8.set j (.int .i64 (C j))
      rw [ic_set D j hj13, UB.out] at l9
      have h9 := h8.turn (L := [L]) ((Turns.refl _ _).setCell (p := ⟨L, j, none⟩) (.inl (by simp)) (.int .i64 (C j))) (by simp; exact hBL)
      clear l8 h8 cj fj
      generalize w8.setCell ⟨L, j, none⟩ (.int .i64 (C j)) = w9 at *
      obtain ⟨d0, d1, d2, d3, d4, d5, d6, d7, d8, d9, d10, d11, d12⟩ := l9.thir
      go_wp2_with fail
      refine (of_cfg C _).mono ?_
      rintro r w10 ⟨rfl, b10⟩
      have h10 := h9.next b10
      have l10 := l9.below b10 l9.lt
      clear b10 h9 l9 d0 d1 d2 d3 d4 d5 d6 d7 d8 d9 d10 d11 d12
      go_wp2_with fail
      refine (check_any C _ h10.t).mono ?_
      rintro r w11 ⟨rfl, b11⟩
      have h11 := h10.next b11
      have l11 := l10.below b11 l10.lt
      clear b11 h10 l10
      rw [(chk_ok hr).2]
      have hEq := eql_cfg C
      obtain ⟨d0, d1, d2, d3, d4, d5, d6, d7, d8, d9, d10, d11, d12⟩ := l11.thir
      obtain ⟨e0, e1, e2, e3, e4, e5, e6, e7, e8, e9, e10, e11, e12⟩ := h11.l.thir
      go_wp2_with fail
      go_region_with (first
          | (go_at_call 14
             refine (of_cfg C _).mono ?_
             rintro r w12 ⟨rfl, b12⟩
             have b12' : Below w11.heap.size w11 w12 := ⟨b12.os, b12.tape, b12.output, b12.size, b12.block⟩
             have h12 := h11.next b12'
             obtain ⟨f0, f1, f2, f3, f4, f5, f6, f7, f8, f9, f10, f11, f12⟩ := h12.l.thir)
          | (go_at_call 9
             refine (lawof_any C _).mono ?_
             rintro r w13 ⟨rfl, b13⟩
             have h13 := h12.next b13))
      all_goals go_wp2
      all_goals go_ret
      all_goals exact ⟨rfl, by rw [HBE.out]; exact h13.be⟩
  · go_enter Tryd.func7, Tryd.ntmps7
    go_wp2_with fail
    generalize hBe : w.heap.size = B at *
    have HBE := Lib.hid hBe
    clear hBe
    generalize w.alloc (.cells (ic C) 23) = w0 at *
    refine (speaks3_any _ h0.t).mono ?_
    rintro r w1 ⟨rfl, b1⟩
    have h1 := h0.next b1
    clear b1 h0
    obtain ⟨d0, d1, d2, d3, d4, d5, d6, d7, d8, d9, d10, d11, d12⟩ := h1.l.thir
    go_wp2_with fail
    refine (right_no C _ hr).mono ?_
    rintro r w2 ⟨rfl, b2⟩
    have h2 := h1.next b2
    clear b2 h1 d0 d1 d2 d3 d4 d5 d6 d7 d8 d9 d10 d11 d12
    go_wp2_with fail
    refine (speaks3_any _ h2.t).mono ?_
    rintro r w3 ⟨rfl, b3⟩
    have h3 := h2.next b3
    clear b3 h2
    go_wp2
    go_ret
    exact ⟨rfl, by rw [HBE.out]; exact h3.be⟩

end Go.Proofs.YtgbepebihlmedaaDoor
