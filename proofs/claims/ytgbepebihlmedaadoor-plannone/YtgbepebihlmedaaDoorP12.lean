/- The law: of a shard, a level, a slot, a node, a ticket, or a connection that there isn't there is no cell; of those that there are there is one. -/
import Derived.Test.YtgbepebihlmedaaDoorP10
import Derived.BigQuiet
set_option linter.unusedSimpArgs false
namespace Go.Proofs.YtgbepebihlmedaaDoor
open Go.RowKit

/-- a place that is there if b, and -1 if not. -/
def good (b : Bool) (x : Int) : Prop := b = true ∧ 0 ≤ x ∨ b = false ∧ x = -1

theorem placeR_good (f e n i q : Int) (hf : 0 ≤ f) (he : 0 ≤ e) (hq : 0 ≤ q) : good (inB i n) (placeR f e n i q) := by
  by_cases h : inB i n = true
  · obtain ⟨h0, h1⟩ := inB_iff.1 h
    refine .inl ⟨h, ?_⟩
    rw [placeR_in h0 h1]
    have := Int.mul_nonneg h0 he
    omega
  · exact .inr ⟨by simpa using h, placeR_out (by simpa using h)⟩
theorem inbox_good {C : Nat → Int} (h : Bds C) (s q : Int) (hq : 0 ≤ q) : good (inB s (C 0)) (plInbox C s q) := placeR_good _ _ _ _ _ (by omega) (by have := h.e; omega) hq
theorem node_good {C : Nat → Int} (h : Bds C) (s q : Int) (hq : 0 ≤ q) : good (inB s (C 3)) (plNode C s q) := placeR_good _ _ _ _ _ (by have := h.a; omega) (by omega) hq
theorem tick_good {C : Nat → Int} (h : Bds C) (s q : Int) (hq : 0 ≤ q) : good (inB s (C 4)) (plTick C s q) := placeR_good _ _ _ _ _ (by have := h.a; have := h.b; omega) (by omega) hq
theorem conn_good {C : Nat → Int} (h : Bds C) (s : Int) : good (inB s (C 7)) (plConn C s) := placeR_good _ _ _ _ _ (by have := h.a; have := h.b; have := h.d; omega) (by omega) (by omega)
theorem map_good {C : Nat → Int} (h : Bds C) (s k : Int) : good (inB s (C 0) && inB k (C 1)) (plMap C s k) := by
  unfold plMap
  by_cases hs : inB s (C 0) = true
  · rw [if_pos hs, hs, Bool.true_and]
    have := Int.mul_nonneg (inB_iff.1 hs).1 (show 0 ≤ plE C by have := h.e; omega)
    exact placeR_good _ _ _ _ _ (by omega) (by have := h.s; omega) (by omega)
  · rw [if_neg hs]
    exact .inr ⟨by simp [hs], rfl⟩
theorem slot_good {C : Nat → Int} (h : Bds C) (s k i : Int) : good ((inB s (C 0) && inB k (C 1)) && inB i (plS C)) (plSlot C s k i) := by
  unfold plSlot
  by_cases hi : inB i (plS C) = true
  · rw [if_pos hi, hi, Bool.and_true]
    by_cases hs : inB s (C 0) = true
    · rw [if_pos hs, hs, Bool.true_and]
      have := Int.mul_nonneg (inB_iff.1 hs).1 (show 0 ≤ plE C by have := h.e; omega)
      have := (inB_iff.1 hi).1
      exact placeR_good _ _ _ _ _ (by omega) (by have := h.s; omega) (by omega)
    · rw [if_neg hs]
      exact .inr ⟨by simp [hs], rfl⟩
  · rw [if_neg hi]
    exact .inr ⟨by simp [hi], rfl⟩

/-- within the law: the plan, rows of numbers. -/
structure NoneAt (w : World) (B p : Nat) (C : Nat → Int) (Rs : List (Nat × Array Value)) (W : World) : Prop where
  pl : PlanAt W p C
  be : Below B w W
  hB : B ≤ W.heap.size
  rows : ∀ r, r ∈ Rs → Lies W r.1 3 r.2
section
variable {w : World} {B p : Nat} {C : Nat → Int} {Rs : List (Nat × Array Value)} {W W' : World}
theorem NoneAt.next (h : NoneAt w B p C Rs W) (k : Below W.heap.size W W') : NoneAt w B p C Rs W' :=
  ⟨h.pl.keep k h.pl.lt, h.be.trans (k.mono h.hB), Nat.le_trans h.hB k.size, fun r hr => (h.rows r hr).below k (h.rows r hr).lt⟩
theorem NoneAt.push (h : NoneAt w B p C Rs W) (cs : Array Value) : NoneAt w B p C ((W.heap.size, cs) :: Rs) (W.alloc (.cells cs 3)) := by
  have h1 := h.next ((Below.refl _ _).alloc (Nat.le_refl _) (.cells cs 3))
  refine ⟨h1.pl, h1.be, h1.hB, fun r hr => ?_⟩
  rcases List.mem_cons.1 hr with rfl | hr
  · exact Lies.new _ _ _
  · exact h1.rows r hr
end

/-- one row: where it lies, how long it is, whether its places are there. -/
structure RowIs (W : World) (O m g n : Nat) (b : Bool) : Prop where
  at_ : W.cell? ⟨O, m, none⟩ = some (.slice (some ⟨g, 0, none⟩) n n)
  lt : g < W.heap.size
  le : n ≤ 4
  el : ∀ j, j < n → ∃ x, W.cell? ⟨g, j, none⟩ = some (.int .i64 x) ∧ good b x
theorem RowIs.next {W W' : World} {O m g n : Nat} {b : Bool} (h : RowIs W O m g n b) (hO : O < W.heap.size) (k : Below W.heap.size W W') : RowIs W' O m g n b :=
  ⟨(k.cell hO).trans h.at_, Nat.lt_of_lt_of_le h.lt k.size, h.le, fun j hj => by
    obtain ⟨x, h1, h2⟩ := h.el j hj
    exact ⟨x, (k.cell h.lt).trans h1, h2⟩⟩
theorem RowIs.of {W : World} {O m g n : Nat} {b : Bool} {cs : Array Value} (h0 : W.cell? ⟨O, m, none⟩ = some (.slice (some ⟨g, 0, none⟩) n n)) (h : Lies W g 3 cs) (hn : n ≤ 4) (he : ∀ j, j < n → ∃ x, cs[j]? = some (.int .i64 x) ∧ good b x) : RowIs W O m g n b :=
  ⟨h0, h.lt, hn, fun j hj => by
    obtain ⟨x, h1, h2⟩ := he j hj
    exact ⟨x, (h.cell j).trans h1, h2⟩⟩
theorem el1 {b : Bool} {x : Int} (h : good b x) : ∀ j, j < 1 → ∃ y, (#[Value.int .i64 x])[j]? = some (.int .i64 y) ∧ good b y := by
  intro j hj
  match j, hj with
  | 0, _ => exact ⟨x, rfl, h⟩
theorem el3 {b : Bool} {x y z : Int} (h0 : good b x) (h1 : good b y) (h2 : good b z) : ∀ j, j < 3 → ∃ u, (#[Value.int .i64 x, .int .i64 y, .int .i64 z])[j]? = some (.int .i64 u) ∧ good b u := by
  intro j hj
  match j, hj with
  | 0, _ => exact ⟨x, rfl, h0⟩
  | 1, _ => exact ⟨y, rfl, h1⟩
  | 2, _ => exact ⟨z, rfl, h2⟩
theorem el4 {b : Bool} {x y z t : Int} (h0 : good b x) (h1 : good b y) (h2 : good b z) (h3 : good b t) : ∀ j, j < 4 → ∃ u, (#[Value.int .i64 x, .int .i64 y, .int .i64 z, .int .i64 t])[j]? = some (.int .i64 u) ∧ good b u := by
  intro j hj
  match j, hj with
  | 0, _ => exact ⟨x, rfl, h0⟩
  | 1, _ => exact ⟨y, rfl, h1⟩
  | 2, _ => exact ⟨z, rfl, h2⟩
  | 3, _ => exact ⟨t, rfl, h3⟩

/-- six rows, of which each has places that are there, or not. -/
structure Six (w : World) (B O : Nat) (bs : List Bool) (W : World) : Prop where
  row : ∀ m, m < 6 → ∃ g n, RowIs W O m g n (bs.getD m false)
  hO : O < W.heap.size
  be : Below B w W
  hB : B ≤ W.heap.size
theorem Six.next {w : World} {B O : Nat} {bs : List Bool} {W W' : World} (h : Six w B O bs W) (k : Below W.heap.size W W') : Six w B O bs W' :=
  ⟨fun m hm => by
    obtain ⟨g, n, hg⟩ := h.row m hm
    exact ⟨g, n, hg.next h.hO k⟩, Nat.lt_of_lt_of_le h.hO k.size, h.be.trans (k.mono h.hB), Nat.le_trans h.hB k.size⟩
theorem six_of {w : World} {B O : Nat} {b0 b1 b2 b3 b4 b5 : Bool} {W : World} {g0 g1 g2 g3 g4 g5 n0 n1 n2 n3 n4 n5 : Nat} (r0 : RowIs W O 0 g0 n0 b0) (r1 : RowIs W O 1 g1 n1 b1) (r2 : RowIs W O 2 g2 n2 b2) (r3 : RowIs W O 3 g3 n3 b3) (r4 : RowIs W O 4 g4 n4 b4) (r5 : RowIs W O 5 g5 n5 b5)
    (hO : O < W.heap.size) (be : Below B w W) (hB : B ≤ W.heap.size) : Six w B O [b0, b1, b2, b3, b4, b5] W :=
  ⟨fun m hm => by
    match m, hm with
    | 0, _ => exact ⟨_, _, r0⟩
    | 1, _ => exact ⟨_, _, r1⟩
    | 2, _ => exact ⟨_, _, r2⟩
    | 3, _ => exact ⟨_, _, r3⟩
    | 4, _ => exact ⟨_, _, r4⟩
    | 5, _ => exact ⟨_, _, r5⟩, hO, be, hB⟩
theorem bools_at (b0 b1 b2 b3 b4 b5 : Bool) (m : Nat) (hm : m < 6) : (#[Value.bool b0, .bool b1, .bool b2, .bool b3, .bool b4, .bool b5])[m]? = some (.bool ([b0, b1, b2, b3, b4, b5].getD m false)) := by
  match m, hm with
  | 0, _ | 1, _ | 2, _ | 3, _ | 4, _ | 5, _ => rfl

theorem none_no (C : Nat → Int) (s k i n : Int) (w : World) (ht : Tab w) (hr : ¬ Right C) :
    Calls Tryd.prog 5 #[.agg (ic C), .int .i64 s, .int .i64 k, .int .i64 i, .int .i64 n] w fun r w' => r = .returned (.bool true) ∧ Below w.heap.size w w' := by
  obtain ⟨l0, b0, t0⟩ := boxed3 C w ht 23
  have h0 : Box w w.heap.size C (w.alloc (.cells (ic C) 23)) := ⟨l0, b0, t0⟩
  clear l0 b0 t0
  go_enter Tryd.func5, Tryd.ntmps5
  go_wp2_with fail
  generalize hBe : w.heap.size = B at *
  have HBE := Lib.hid hBe
  clear hBe
  generalize w.alloc (.cells (ic C) 23) = w0 at *
  refine (speaks3_any _ h0.t).mono ?_
  rintro r w1 ⟨rfl, b1⟩
  have h1 := h0.next b1
  clear b1 h0
  obtain ⟨d0, d1, d2, d3, d4, d5, d6, d7, d8, d9, d10, d11, d12⟩ := h1.l.thir
  go_wp2_with fail
  refine (right_no C _ hr).mono ?_
  rintro r w2 ⟨rfl, b2⟩
  have h2 := h1.next b2
  clear b2 h1 d0 d1 d2 d3 d4 d5 d6 d7 d8 d9 d10 d11 d12
  go_wp2_with fail
  refine (speaks3_any _ h2.t).mono ?_
  rintro r w3 ⟨rfl, b3⟩
  have h3 := h2.next b3
  clear b3 h2
  go_wp2
  go_ret
  exact ⟨rfl, by rw [HBE.out]; exact h3.be⟩

set_option maxRecDepth 100000 in
set_option maxHeartbeats 8000000 in
theorem none_yes (C : Nat → Int) (s k i n : Int) (w : World) (ht : Tab w) (hr : Right C) :
    Calls Tryd.prog 5 #[.agg (ic C), .int .i64 s, .int .i64 k, .int .i64 i, .int .i64 n] w fun r w' => r = .returned (.bool true) ∧ Below w.heap.size w w' := by
  have HB := Lib.hid (bds hr)
  obtain ⟨l0, b0, t0⟩ := boxed3 C w ht 23
  have h0 : Box w w.heap.size C (w.alloc (.cells (ic C) 23)) := ⟨l0, b0, t0⟩
  clear l0 b0 t0
  go_enter Tryd.func5, Tryd.ntmps5
  go_wp2_with fail
  generalize hBe : w.heap.size = B at *
  have HBE := Lib.hid hBe
  clear hBe
  generalize w.alloc (.cells (ic C) 23) = w0 at *
  refine (speaks3_any _ h0.t).mono ?_
  rintro r w1 ⟨rfl, b1⟩
  have h1 := h0.next b1
  clear b1 h0
  obtain ⟨d0, d1, d2, d3, d4, d5, d6, d7, d8, d9, d10, d11, d12⟩ := h1.l.thir
  go_wp2_with fail
  refine (right_yes C _ hr).mono ?_
  rintro r w2 ⟨rfl, b2⟩
  have h2 := h1.next b2
  clear b2 h1 d0 d1 d2 d3 d4 d5 d6 d7 d8 d9 d10 d11 d12
  obtain ⟨d0, d1, d2, d3, d4, d5, d6, d7, d8, d9, d10, d11, d12⟩ := h2.l.thir
  go_wp2_with fail
  refine (lawof_any C _).mono ?_
  rintro r w3 ⟨rfl, b3⟩
  have h3 := h2.next b3
  clear b3 h2 d0 d1 d2 d3 d4 d5 d6 d7 d8 d9 d10 d11 d12
  go_wp2_with fail
  refine (new_yes C _ h3.t hr).mono ?_
  rintro r w4 ⟨p, rfl, hp0, hp, b4⟩
  have h4 := h3.next b4
  clear b4 h3 hp0 ht
  have d0 := h4.l.thir.c0
  have d1 := h4.l.thir.c1
  go_wp2_with fail
  by_cases hs : inB s (C 0) = true
  · by_cases hk : inB k (C 1) = true
    · go_quiet ((go_at_call 20; exact Calls.quiet_of_same ((in_any _ _ _).mono fun e w' h => ⟨h.1, h.2.symm⟩)))
      have h5 : Box w B C (w4.drewN nq) := ⟨h4.l, drawn h4.be _, ⟨h4.t.lt, h4.t.at_⟩⟩
      have hp5 : PlanAt (w4.drewN nq) p C := hp
      clear d0 d1 h4 hp
      generalize w4.drewN nq = w5 at *
      obtain ⟨d0, d1, d2, d3, d4, d5, d6, d7, d8, d9, d10, d11, d12⟩ := h5.l.thir
      go_wp2_with fail
      refine (slots_any C _ HB.out.c2).mono ?_
      rintro r w6 ⟨rfl, b6⟩
      have b6' : Below w5.heap.size w5 w6 := by rw [← b6]; exact (Below.refl _ _).alloc (Nat.le_refl _) _
      have h6 := h5.next b6'
      have hp6 := hp5.keep b6' hp5.lt
      clear b6 b6' h5 hp5 d0 d1 d2 d3 d4 d5 d6 d7 d8 d9 d10 d11 d12
      go_wp2_with fail
      refine (in_any _ _ _).mono ?_
      rintro r w6' ⟨rfl, rfl⟩
      have d3 := h6.l.thir.c3
      have d4 := h6.l.thir.c4
      have d7 := h6.l.thir.c7
      have G00 := inbox_good HB.out s 0 (by omega)
      have G01 := inbox_good HB.out s 1 (by omega)
      have G02 := inbox_good HB.out s 2 (by omega)
      have G1 := map_good HB.out s k
      have G2 := slot_good HB.out s k i
      simp only [hs, hk, Bool.true_and, Bool.and_true, Bool.false_and, Bool.and_false] at G00 G01 G02 G1 G2
      have G30 := node_good HB.out n 0 (by omega)
      have G31 := node_good HB.out n 1 (by omega)
      have G32 := node_good HB.out n 2 (by omega)
      have G33 := node_good HB.out n 3 (by omega)
      have G40 := tick_good HB.out n 0 (by omega)
      have G41 := tick_good HB.out n 1 (by omega)
      have G42 := tick_good HB.out n 2 (by omega)
      have G5 := conn_good HB.out n
      have H00 := Lib.hid (And.intro G00 (And.intro G01 G02))
      have H1 := Lib.hid G1
      have H2 := Lib.hid G2
      have H3 := Lib.hid (And.intro G30 (And.intro G31 (And.intro G32 G33)))
      have H4 := Lib.hid (And.intro G40 (And.intro G41 G42))
      have H5 := Lib.hid G5
      clear G00 G01 G02 G1 G2 G30 G31 G32 G33 G40 G41 G42 G5 hs hk
      go_wp2_with fail
      go_quiet ((go_at_call 20; exact Calls.quiet_of_same ((in_any _ _ _).mono fun e w' h => ⟨h.1, h.2.symm⟩)))
      have n0 : NoneAt w B p C [] (w6.drewN nq) := ⟨hp6, drawn h6.be _, Nat.le_of_lt h6.l.lt, fun r hr => by cases hr⟩
      clear d3 d4 d7 h6 hp6
      generalize w6.drewN nq = v0 at *
      generalize hn3 : inB n (C 3) = b3 at *
      generalize hn4 : inB n (C 4) = b4 at *
      generalize hn7 : inB n (C 7) = b5 at *
      clear hn3 hn4 hn7
      generalize hn2 : inB i (plS C) = b2 at *
      clear hn2
      go_wp2_with fail
      refine (inbox_any C p s _ n0.pl hr).mono ?_
      rintro r v1 ⟨rfl, q1⟩
      have n1 := n0.next q1
      clear q1
      go_wp2_with fail
      refine (cur_any C p s _ n1.pl hr).mono ?_
      rintro r v2 ⟨rfl, q2⟩
      have n2 := n1.next q2
      clear q2
      go_wp2_with fail
      refine (over_any C p s _ n2.pl hr).mono ?_
      rintro r v3 ⟨rfl, q3⟩
      have n3 := n2.next q3
      clear q3
      have n4 := n3.push #[.int .i64 (plInbox C s 0), .int .i64 (plInbox C s 1), .int .i64 (plInbox C s 2)]
      go_wp2_with fail
      refine (map_any C p s k _ n4.pl hr).mono ?_
      rintro r v4 ⟨rfl, q4⟩
      have n5 := n4.next q4
      clear q4
      have n6 := n5.push #[.int .i64 (plMap C s k)]
      go_wp2_with fail
      refine (slot_any C p s k i _ n6.pl hr).mono ?_
      rintro r v5 ⟨rfl, q5⟩
      have n7 := n6.next q5
      clear q5
      have n8 := n7.push #[.int .i64 (plSlot C s k i)]
      go_wp2_with fail
      refine (state_any C p n _ n8.pl hr).mono ?_
      rintro r v6 ⟨rfl, q6⟩
      have n9 := n8.next q6
      clear q6
      go_wp2_with fail
      refine (home_any C p n _ n9.pl hr).mono ?_
      rintro r v7 ⟨rfl, q7⟩
      have n10 := n9.next q7
      clear q7
      go_wp2_with fail
      refine (user_any C p n _ n10.pl hr).mono ?_
      rintro r v8 ⟨rfl, q8⟩
      have n11 := n10.next q8
      clear q8
      go_wp2_with fail
      refine (nodeLink_any C p n _ n11.pl hr).mono ?_
      rintro r v9 ⟨rfl, q9⟩
      have n12 := n11.next q9
      clear q9
      have n13 := n12.push #[.int .i64 (plNode C n 0), .int .i64 (plNode C n 1), .int .i64 (plNode C n 2), .int .i64 (plNode C n 3)]
      go_wp2_with fail
      refine (key_any C p n _ n13.pl hr).mono ?_
      rintro r v10 ⟨rfl, q10⟩
      have n14 := n13.next q10
      clear q10
      go_wp2_with fail
      refine (time_any C p n _ n14.pl hr).mono ?_
      rintro r v11 ⟨rfl, q11⟩
      have n15 := n14.next q11
      clear q11
      go_wp2_with fail
      refine (ticketLink_any C p n _ n15.pl hr).mono ?_
      rintro r v12 ⟨rfl, q12⟩
      have n16 := n15.next q12
      clear q12
      have n17 := n16.push #[.int .i64 (plTick C n 0), .int .i64 (plTick C n 1), .int .i64 (plTick C n 2)]
      go_wp2_with fail
      refine (conn_any C p n _ n17.pl hr).mono ?_
      rintro r v13 ⟨rfl, q13⟩
      have n18 := n17.next q13
      clear q13
      have n19 := n18.push #[.int .i64 (plConn C n)]
      have m0 := n19.next ((Below.refl _ _).alloc (Nat.le_refl _) (.cells #[.slice (some ⟨v3.heap.size, 0, none⟩) 3 3, .slice (some ⟨v4.heap.size, 0, none⟩) 1 1, .slice (some ⟨v5.heap.size, 0, none⟩) 1 1, .slice (some ⟨v9.heap.size, 0, none⟩) 4 4, .slice (some ⟨v12.heap.size, 0, none⟩) 3 3, .slice (some ⟨v13.heap.size, 0, none⟩) 1 1] 42))
      have mo := Lies.new (v13.alloc (.cells #[.int .i64 (plConn C n)] 3)) 42 #[.slice (some ⟨v3.heap.size, 0, none⟩) 3 3, .slice (some ⟨v4.heap.size, 0, none⟩) 1 1, .slice (some ⟨v5.heap.size, 0, none⟩) 1 1, .slice (some ⟨v9.heap.size, 0, none⟩) 4 4, .slice (some ⟨v12.heap.size, 0, none⟩) 3 3, .slice (some ⟨v13.heap.size, 0, none⟩) 1 1]
      have r0 := RowIs.of (b := true) (n := 3) (mo.cell 0) (m0.rows (v3.heap.size, #[.int .i64 (plInbox C s 0), .int .i64 (plInbox C s 1), .int .i64 (plInbox C s 2)]) (by simp)) (by omega) (el3 H00.out.1 H00.out.2.1 H00.out.2.2)
      have r1 := RowIs.of (b := true) (n := 1) (mo.cell 1) (m0.rows (v4.heap.size, #[.int .i64 (plMap C s k)]) (by simp)) (by omega) (el1 H1.out)
      have r2 := RowIs.of (b := b2) (n := 1) (mo.cell 2) (m0.rows (v5.heap.size, #[.int .i64 (plSlot C s k i)]) (by simp)) (by omega) (el1 H2.out)
      have r3 := RowIs.of (b := b3) (n := 4) (mo.cell 3) (m0.rows (v9.heap.size, #[.int .i64 (plNode C n 0), .int .i64 (plNode C n 1), .int .i64 (plNode C n 2), .int .i64 (plNode C n 3)]) (by simp)) (by omega) (el4 H3.out.1 H3.out.2.1 H3.out.2.2.1 H3.out.2.2.2)
      have r4 := RowIs.of (b := b4) (n := 3) (mo.cell 4) (m0.rows (v12.heap.size, #[.int .i64 (plTick C n 0), .int .i64 (plTick C n 1), .int .i64 (plTick C n 2)]) (by simp)) (by omega) (el3 H4.out.1 H4.out.2.1 H4.out.2.2)
      have r5 := RowIs.of (b := b5) (n := 1) (mo.cell 5) (m0.rows (v13.heap.size, #[.int .i64 (plConn C n)]) (by simp)) (by omega) (el1 H5.out)
      have six := six_of r0 r1 r2 r3 r4 r5 mo.lt m0.be m0.hB
      go_upto_region 10 with (fail)
      clear n0 n1 n2 n3 n4 n5 n6 n7 n8 n9 n10 n11 n12 n13 n14 n15 n16 n17 n18 n19 H00 H1 H2 H3 H4 H5 m0 mo r0 r1 r2 r3 r4 r5
      rw [show (v13.alloc (.cells #[.int .i64 (plConn C n)] 3)).heap.size = v13.heap.size + 1 by simp] at six
      generalize (v13.alloc (.cells #[.int .i64 (plConn C n)] 3)).alloc (.cells #[.slice (some ⟨v3.heap.size, 0, none⟩) 3 3, .slice (some ⟨v4.heap.size, 0, none⟩) 1 1, .slice (some ⟨v5.heap.size, 0, none⟩) 1 1, .slice (some ⟨v9.heap.size, 0, none⟩) 4 4, .slice (some ⟨v12.heap.size, 0, none⟩) 3 3, .slice (some ⟨v13.heap.size, 0, none⟩) 1 1] 42) = u0 at *
      generalize v13.heap.size + 1 = O at *
      go_loopw [127] (fun a W => ∃ m : Nat, m ≤ 6 ∧ a = .int .i64 m ∧ Six w B O [true, true, b2, b3, b4, b5] W) (fun a _ => 6 - (intOf a).toNat)
      case atStart => exact ⟨0, by omega, rfl, six⟩
      case round =>
        clear six
        obtain ⟨m, hm, rfl, six⟩ := hrel
        by_cases hlt : m < 6
        · obtain ⟨g, nn, hrow⟩ := six.row m hlt
          have c0 := hrow.at_
          have c1 := ((Lies.new wr 4 #[.bool true, .bool true, .bool b2, .bool b3, .bool b4, .bool b5]).cell m).trans (bools_at true true b2 b3 b4 b5 m hlt)
          generalize [true, true, b2, b3, b4, b5].getD m false = b at *
          have k1 : Below wr.heap.size wr (wr.alloc (.cells #[.bool true, .bool true, .bool b2, .bool b3, .bool b4, .bool b5] 4)) := (Below.refl _ _).alloc (Nat.le_refl _) _
          have six1 := six.next k1
          have row1 := hrow.next six.hO k1
          go_upto_region 13 with (fail)
          clear c0 c1 k1 six hrow
          generalize wr.alloc (.cells #[.bool true, .bool true, .bool b2, .bool b3, .bool b4, .bool b5] 4) = u1 at *
          have HX := Lib.hid six1
          clear six1
          have hnn := row1.le
          go_wp2_with fail
          go_loop [144] (fun a => ∃ j : Nat, j ≤ nn ∧ a = .int .i64 j) (fun a => nn - (intOf a).toNat)
          case atStart => exact ⟨0, by omega, rfl⟩
          case round =>
            obtain ⟨j, hj, rfl⟩ := hrel
            by_cases hjl : j < nn
            · obtain ⟨x, hx, hg⟩ := row1.el j hjl
              rcases hg with ⟨rfl, hx0⟩ | ⟨rfl, rfl⟩
              · go_wp2
                go_round
                case rel => exact ⟨j + 1, by omega, by go_num⟩
                case measure => simp [intOf]; omega
              · go_wp2
                go_round
                case rel => exact ⟨j + 1, by omega, by go_num⟩
                case measure => simp [intOf]; omega
            · go_wp2
              go_roundw
              case rel => exact ⟨m + 1, by omega, by go_num, HX.out⟩
              case measure => simp [intOf]; omega
        · go_wp2
          go_ret
          exact ⟨rfl, by rw [HBE.out]; exact six.be⟩
    · replace hk : inB k (C 1) = false := by simpa using hk
      go_quiet ((go_at_call 20; exact Calls.quiet_of_same ((in_any _ _ _).mono fun e w' h => ⟨h.1, h.2.symm⟩)))
      have h5 : Box w B C (w4.drewN nq) := ⟨h4.l, drawn h4.be _, ⟨h4.t.lt, h4.t.at_⟩⟩
      have hp5 : PlanAt (w4.drewN nq) p C := hp
      clear d0 d1 h4 hp
      generalize w4.drewN nq = w5 at *
      have h6 := h5
      have hp6 := hp5
      clear h5 hp5
      generalize w5 = w6 at *
      have d3 := h6.l.thir.c3
      have d4 := h6.l.thir.c4
      have d7 := h6.l.thir.c7
      have G00 := inbox_good HB.out s 0 (by omega)
      have G01 := inbox_good HB.out s 1 (by omega)
      have G02 := inbox_good HB.out s 2 (by omega)
      have G1 := map_good HB.out s k
      have G2 := slot_good HB.out s k i
      simp only [hs, hk, Bool.true_and, Bool.and_true, Bool.false_and, Bool.and_false] at G00 G01 G02 G1 G2
      have G30 := node_good HB.out n 0 (by omega)
      have G31 := node_good HB.out n 1 (by omega)
      have G32 := node_good HB.out n 2 (by omega)
      have G33 := node_good HB.out n 3 (by omega)
      have G40 := tick_good HB.out n 0 (by omega)
      have G41 := tick_good HB.out n 1 (by omega)
      have G42 := tick_good HB.out n 2 (by omega)
      have G5 := conn_good HB.out n
      have H00 := Lib.hid (And.intro G00 (And.intro G01 G02))
      have H1 := Lib.hid G1
      have H2 := Lib.hid G2
      have H3 := Lib.hid (And.intro G30 (And.intro G31 (And.intro G32 G33)))
      have H4 := Lib.hid (And.intro G40 (And.intro G41 G42))
      have H5 := Lib.hid G5
      clear G00 G01 G02 G1 G2 G30 G31 G32 G33 G40 G41 G42 G5 hs hk
      go_wp2_with fail
      go_quiet ((go_at_call 20; exact Calls.quiet_of_same ((in_any _ _ _).mono fun e w' h => ⟨h.1, h.2.symm⟩)))
      have n0 : NoneAt w B p C [] (w6.drewN nq) := ⟨hp6, drawn h6.be _, Nat.le_of_lt h6.l.lt, fun r hr => by cases hr⟩
      clear d3 d4 d7 h6 hp6
      generalize w6.drewN nq = v0 at *
      generalize hn3 : inB n (C 3) = b3 at *
      generalize hn4 : inB n (C 4) = b4 at *
      generalize hn7 : inB n (C 7) = b5 at *
      clear hn3 hn4 hn7
      go_wp2_with fail
      refine (inbox_any C p s _ n0.pl hr).mono ?_
      rintro r v1 ⟨rfl, q1⟩
      have n1 := n0.next q1
      clear q1
      go_wp2_with fail
      refine (cur_any C p s _ n1.pl hr).mono ?_
      rintro r v2 ⟨rfl, q2⟩
      have n2 := n1.next q2
      clear q2
      go_wp2_with fail
      refine (over_any C p s _ n2.pl hr).mono ?_
      rintro r v3 ⟨rfl, q3⟩
      have n3 := n2.next q3
      clear q3
      have n4 := n3.push #[.int .i64 (plInbox C s 0), .int .i64 (plInbox C s 1), .int .i64 (plInbox C s 2)]
      go_wp2_with fail
      refine (map_any C p s k _ n4.pl hr).mono ?_
      rintro r v4 ⟨rfl, q4⟩
      have n5 := n4.next q4
      clear q4
      have n6 := n5.push #[.int .i64 (plMap C s k)]
      go_wp2_with fail
      refine (slot_any C p s k i _ n6.pl hr).mono ?_
      rintro r v5 ⟨rfl, q5⟩
      have n7 := n6.next q5
      clear q5
      have n8 := n7.push #[.int .i64 (plSlot C s k i)]
      go_wp2_with fail
      refine (state_any C p n _ n8.pl hr).mono ?_
      rintro r v6 ⟨rfl, q6⟩
      have n9 := n8.next q6
      clear q6
      go_wp2_with fail
      refine (home_any C p n _ n9.pl hr).mono ?_
      rintro r v7 ⟨rfl, q7⟩
      have n10 := n9.next q7
      clear q7
      go_wp2_with fail
      refine (user_any C p n _ n10.pl hr).mono ?_
      rintro r v8 ⟨rfl, q8⟩
      have n11 := n10.next q8
      clear q8
      go_wp2_with fail
      refine (nodeLink_any C p n _ n11.pl hr).mono ?_
      rintro r v9 ⟨rfl, q9⟩
      have n12 := n11.next q9
      clear q9
      have n13 := n12.push #[.int .i64 (plNode C n 0), .int .i64 (plNode C n 1), .int .i64 (plNode C n 2), .int .i64 (plNode C n 3)]
      go_wp2_with fail
      refine (key_any C p n _ n13.pl hr).mono ?_
      rintro r v10 ⟨rfl, q10⟩
      have n14 := n13.next q10
      clear q10
      go_wp2_with fail
      refine (time_any C p n _ n14.pl hr).mono ?_
      rintro r v11 ⟨rfl, q11⟩
      have n15 := n14.next q11
      clear q11
      go_wp2_with fail
      refine (ticketLink_any C p n _ n15.pl hr).mono ?_
      rintro r v12 ⟨rfl, q12⟩
      have n16 := n15.next q12
      clear q12
      have n17 := n16.push #[.int .i64 (plTick C n 0), .int .i64 (plTick C n 1), .int .i64 (plTick C n 2)]
      go_wp2_with fail
      refine (conn_any C p n _ n17.pl hr).mono ?_
      rintro r v13 ⟨rfl, q13⟩
      have n18 := n17.next q13
      clear q13
      have n19 := n18.push #[.int .i64 (plConn C n)]
      have m0 := n19.next ((Below.refl _ _).alloc (Nat.le_refl _) (.cells #[.slice (some ⟨v3.heap.size, 0, none⟩) 3 3, .slice (some ⟨v4.heap.size, 0, none⟩) 1 1, .slice (some ⟨v5.heap.size, 0, none⟩) 1 1, .slice (some ⟨v9.heap.size, 0, none⟩) 4 4, .slice (some ⟨v12.heap.size, 0, none⟩) 3 3, .slice (some ⟨v13.heap.size, 0, none⟩) 1 1] 42))
      have mo := Lies.new (v13.alloc (.cells #[.int .i64 (plConn C n)] 3)) 42 #[.slice (some ⟨v3.heap.size, 0, none⟩) 3 3, .slice (some ⟨v4.heap.size, 0, none⟩) 1 1, .slice (some ⟨v5.heap.size, 0, none⟩) 1 1, .slice (some ⟨v9.heap.size, 0, none⟩) 4 4, .slice (some ⟨v12.heap.size, 0, none⟩) 3 3, .slice (some ⟨v13.heap.size, 0, none⟩) 1 1]
      have r0 := RowIs.of (b := true) (n := 3) (mo.cell 0) (m0.rows (v3.heap.size, #[.int .i64 (plInbox C s 0), .int .i64 (plInbox C s 1), .int .i64 (plInbox C s 2)]) (by simp)) (by omega) (el3 H00.out.1 H00.out.2.1 H00.out.2.2)
      have r1 := RowIs.of (b := false) (n := 1) (mo.cell 1) (m0.rows (v4.heap.size, #[.int .i64 (plMap C s k)]) (by simp)) (by omega) (el1 H1.out)
      have r2 := RowIs.of (b := false) (n := 1) (mo.cell 2) (m0.rows (v5.heap.size, #[.int .i64 (plSlot C s k i)]) (by simp)) (by omega) (el1 H2.out)
      have r3 := RowIs.of (b := b3) (n := 4) (mo.cell 3) (m0.rows (v9.heap.size, #[.int .i64 (plNode C n 0), .int .i64 (plNode C n 1), .int .i64 (plNode C n 2), .int .i64 (plNode C n 3)]) (by simp)) (by omega) (el4 H3.out.1 H3.out.2.1 H3.out.2.2.1 H3.out.2.2.2)
      have r4 := RowIs.of (b := b4) (n := 3) (mo.cell 4) (m0.rows (v12.heap.size, #[.int .i64 (plTick C n 0), .int .i64 (plTick C n 1), .int .i64 (plTick C n 2)]) (by simp)) (by omega) (el3 H4.out.1 H4.out.2.1 H4.out.2.2)
      have r5 := RowIs.of (b := b5) (n := 1) (mo.cell 5) (m0.rows (v13.heap.size, #[.int .i64 (plConn C n)]) (by simp)) (by omega) (el1 H5.out)
      have six := six_of r0 r1 r2 r3 r4 r5 mo.lt m0.be m0.hB
      go_upto_region 10 with (fail)
      clear n0 n1 n2 n3 n4 n5 n6 n7 n8 n9 n10 n11 n12 n13 n14 n15 n16 n17 n18 n19 H00 H1 H2 H3 H4 H5 m0 mo r0 r1 r2 r3 r4 r5
      rw [show (v13.alloc (.cells #[.int .i64 (plConn C n)] 3)).heap.size = v13.heap.size + 1 by simp] at six
      generalize (v13.alloc (.cells #[.int .i64 (plConn C n)] 3)).alloc (.cells #[.slice (some ⟨v3.heap.size, 0, none⟩) 3 3, .slice (some ⟨v4.heap.size, 0, none⟩) 1 1, .slice (some ⟨v5.heap.size, 0, none⟩) 1 1, .slice (some ⟨v9.heap.size, 0, none⟩) 4 4, .slice (some ⟨v12.heap.size, 0, none⟩) 3 3, .slice (some ⟨v13.heap.size, 0, none⟩) 1 1] 42) = u0 at *
      generalize v13.heap.size + 1 = O at *
      go_loopw [127] (fun a W => ∃ m : Nat, m ≤ 6 ∧ a = .int .i64 m ∧ Six w B O [true, false, false, b3, b4, b5] W) (fun a _ => 6 - (intOf a).toNat)
      case atStart => exact ⟨0, by omega, rfl, six⟩
      case round =>
        clear six
        obtain ⟨m, hm, rfl, six⟩ := hrel
        by_cases hlt : m < 6
        · obtain ⟨g, nn, hrow⟩ := six.row m hlt
          have c0 := hrow.at_
          have c1 := ((Lies.new wr 4 #[.bool true, .bool false, .bool false, .bool b3, .bool b4, .bool b5]).cell m).trans (bools_at true false false b3 b4 b5 m hlt)
          generalize [true, false, false, b3, b4, b5].getD m false = b at *
          have k1 : Below wr.heap.size wr (wr.alloc (.cells #[.bool true, .bool false, .bool false, .bool b3, .bool b4, .bool b5] 4)) := (Below.refl _ _).alloc (Nat.le_refl _) _
          have six1 := six.next k1
          have row1 := hrow.next six.hO k1
          go_upto_region 13 with (fail)
          clear c0 c1 k1 six hrow
          generalize wr.alloc (.cells #[.bool true, .bool false, .bool false, .bool b3, .bool b4, .bool b5] 4) = u1 at *
          have HX := Lib.hid six1
          clear six1
          have hnn := row1.le
          go_wp2_with fail
          go_loop [144] (fun a => ∃ j : Nat, j ≤ nn ∧ a = .int .i64 j) (fun a => nn - (intOf a).toNat)
          case atStart => exact ⟨0, by omega, rfl⟩
          case round =>
            obtain ⟨j, hj, rfl⟩ := hrel
            by_cases hjl : j < nn
            · obtain ⟨x, hx, hg⟩ := row1.el j hjl
              rcases hg with ⟨rfl, hx0⟩ | ⟨rfl, rfl⟩
              · go_wp2
                go_round
                case rel => exact ⟨j + 1, by omega, by go_num⟩
                case measure => simp [intOf]; omega
              · go_wp2
                go_round
                case rel => exact ⟨j + 1, by omega, by go_num⟩
                case measure => simp [intOf]; omega
            · go_wp2
              go_roundw
              case rel => exact ⟨m + 1, by omega, by go_num, HX.out⟩
              case measure => simp [intOf]; omega
        · go_wp2
          go_ret
          exact ⟨rfl, by rw [HBE.out]; exact six.be⟩
  · replace hs : inB s (C 0) = false := by simpa using hs
    have hk : True := trivial
    go_quiet ((go_at_call 20; exact Calls.quiet_of_same ((in_any _ _ _).mono fun e w' h => ⟨h.1, h.2.symm⟩)))
    have h5 : Box w B C (w4.drewN nq) := ⟨h4.l, drawn h4.be _, ⟨h4.t.lt, h4.t.at_⟩⟩
    have hp5 : PlanAt (w4.drewN nq) p C := hp
    clear d0 d1 h4 hp
    generalize w4.drewN nq = w5 at *
    have h6 := h5
    have hp6 := hp5
    clear h5 hp5
    generalize w5 = w6 at *
    have d3 := h6.l.thir.c3
    have d4 := h6.l.thir.c4
    have d7 := h6.l.thir.c7
    have G00 := inbox_good HB.out s 0 (by omega)
    have G01 := inbox_good HB.out s 1 (by omega)
    have G02 := inbox_good HB.out s 2 (by omega)
    have G1 := map_good HB.out s k
    have G2 := slot_good HB.out s k i
    simp only [hs, hk, Bool.true_and, Bool.and_true, Bool.false_and, Bool.and_false] at G00 G01 G02 G1 G2
    have G30 := node_good HB.out n 0 (by omega)
    have G31 := node_good HB.out n 1 (by omega)
    have G32 := node_good HB.out n 2 (by omega)
    have G33 := node_good HB.out n 3 (by omega)
    have G40 := tick_good HB.out n 0 (by omega)
    have G41 := tick_good HB.out n 1 (by omega)
    have G42 := tick_good HB.out n 2 (by omega)
    have G5 := conn_good HB.out n
    have H00 := Lib.hid (And.intro G00 (And.intro G01 G02))
    have H1 := Lib.hid G1
    have H2 := Lib.hid G2
    have H3 := Lib.hid (And.intro G30 (And.intro G31 (And.intro G32 G33)))
    have H4 := Lib.hid (And.intro G40 (And.intro G41 G42))
    have H5 := Lib.hid G5
    clear G00 G01 G02 G1 G2 G30 G31 G32 G33 G40 G41 G42 G5 hs hk
    go_wp2_with fail
    go_quiet ((go_at_call 20; exact Calls.quiet_of_same ((in_any _ _ _).mono fun e w' h => ⟨h.1, h.2.symm⟩)))
    have n0 : NoneAt w B p C [] (w6.drewN nq) := ⟨hp6, drawn h6.be _, Nat.le_of_lt h6.l.lt, fun r hr => by cases hr⟩
    clear d3 d4 d7 h6 hp6
    generalize w6.drewN nq = v0 at *
    generalize hn3 : inB n (C 3) = b3 at *
    generalize hn4 : inB n (C 4) = b4 at *
    generalize hn7 : inB n (C 7) = b5 at *
    clear hn3 hn4 hn7
    go_wp2_with fail
    refine (inbox_any C p s _ n0.pl hr).mono ?_
    rintro r v1 ⟨rfl, q1⟩
    have n1 := n0.next q1
    clear q1
    go_wp2_with fail
    refine (cur_any C p s _ n1.pl hr).mono ?_
    rintro r v2 ⟨rfl, q2⟩
    have n2 := n1.next q2
    clear q2
    go_wp2_with fail
    refine (over_any C p s _ n2.pl hr).mono ?_
    rintro r v3 ⟨rfl, q3⟩
    have n3 := n2.next q3
    clear q3
    have n4 := n3.push #[.int .i64 (plInbox C s 0), .int .i64 (plInbox C s 1), .int .i64 (plInbox C s 2)]
    go_wp2_with fail
    refine (map_any C p s k _ n4.pl hr).mono ?_
    rintro r v4 ⟨rfl, q4⟩
    have n5 := n4.next q4
    clear q4
    have n6 := n5.push #[.int .i64 (plMap C s k)]
    go_wp2_with fail
    refine (slot_any C p s k i _ n6.pl hr).mono ?_
    rintro r v5 ⟨rfl, q5⟩
    have n7 := n6.next q5
    clear q5
    have n8 := n7.push #[.int .i64 (plSlot C s k i)]
    go_wp2_with fail
    refine (state_any C p n _ n8.pl hr).mono ?_
    rintro r v6 ⟨rfl, q6⟩
    have n9 := n8.next q6
    clear q6
    go_wp2_with fail
    refine (home_any C p n _ n9.pl hr).mono ?_
    rintro r v7 ⟨rfl, q7⟩
    have n10 := n9.next q7
    clear q7
    go_wp2_with fail
    refine (user_any C p n _ n10.pl hr).mono ?_
    rintro r v8 ⟨rfl, q8⟩
    have n11 := n10.next q8
    clear q8
    go_wp2_with fail
    refine (nodeLink_any C p n _ n11.pl hr).mono ?_
    rintro r v9 ⟨rfl, q9⟩
    have n12 := n11.next q9
    clear q9
    have n13 := n12.push #[.int .i64 (plNode C n 0), .int .i64 (plNode C n 1), .int .i64 (plNode C n 2), .int .i64 (plNode C n 3)]
    go_wp2_with fail
    refine (key_any C p n _ n13.pl hr).mono ?_
    rintro r v10 ⟨rfl, q10⟩
    have n14 := n13.next q10
    clear q10
    go_wp2_with fail
    refine (time_any C p n _ n14.pl hr).mono ?_
    rintro r v11 ⟨rfl, q11⟩
    have n15 := n14.next q11
    clear q11
    go_wp2_with fail
    refine (ticketLink_any C p n _ n15.pl hr).mono ?_
    rintro r v12 ⟨rfl, q12⟩
    have n16 := n15.next q12
    clear q12
    have n17 := n16.push #[.int .i64 (plTick C n 0), .int .i64 (plTick C n 1), .int .i64 (plTick C n 2)]
    go_wp2_with fail
    refine (conn_any C p n _ n17.pl hr).mono ?_
    rintro r v13 ⟨rfl, q13⟩
    have n18 := n17.next q13
    clear q13
    have n19 := n18.push #[.int .i64 (plConn C n)]
    have m0 := n19.next ((Below.refl _ _).alloc (Nat.le_refl _) (.cells #[.slice (some ⟨v3.heap.size, 0, none⟩) 3 3, .slice (some ⟨v4.heap.size, 0, none⟩) 1 1, .slice (some ⟨v5.heap.size, 0, none⟩) 1 1, .slice (some ⟨v9.heap.size, 0, none⟩) 4 4, .slice (some ⟨v12.heap.size, 0, none⟩) 3 3, .slice (some ⟨v13.heap.size, 0, none⟩) 1 1] 42))
    have mo := Lies.new (v13.alloc (.cells #[.int .i64 (plConn C n)] 3)) 42 #[.slice (some ⟨v3.heap.size, 0, none⟩) 3 3, .slice (some ⟨v4.heap.size, 0, none⟩) 1 1, .slice (some ⟨v5.heap.size, 0, none⟩) 1 1, .slice (some ⟨v9.heap.size, 0, none⟩) 4 4, .slice (some ⟨v12.heap.size, 0, none⟩) 3 3, .slice (some ⟨v13.heap.size, 0, none⟩) 1 1]
    have r0 := RowIs.of (b := false) (n := 3) (mo.cell 0) (m0.rows (v3.heap.size, #[.int .i64 (plInbox C s 0), .int .i64 (plInbox C s 1), .int .i64 (plInbox C s 2)]) (by simp)) (by omega) (el3 H00.out.1 H00.out.2.1 H00.out.2.2)
    have r1 := RowIs.of (b := false) (n := 1) (mo.cell 1) (m0.rows (v4.heap.size, #[.int .i64 (plMap C s k)]) (by simp)) (by omega) (el1 H1.out)
    have r2 := RowIs.of (b := false) (n := 1) (mo.cell 2) (m0.rows (v5.heap.size, #[.int .i64 (plSlot C s k i)]) (by simp)) (by omega) (el1 H2.out)
    have r3 := RowIs.of (b := b3) (n := 4) (mo.cell 3) (m0.rows (v9.heap.size, #[.int .i64 (plNode C n 0), .int .i64 (plNode C n 1), .int .i64 (plNode C n 2), .int .i64 (plNode C n 3)]) (by simp)) (by omega) (el4 H3.out.1 H3.out.2.1 H3.out.2.2.1 H3.out.2.2.2)
    have r4 := RowIs.of (b := b4) (n := 3) (mo.cell 4) (m0.rows (v12.heap.size, #[.int .i64 (plTick C n 0), .int .i64 (plTick C n 1), .int .i64 (plTick C n 2)]) (by simp)) (by omega) (el3 H4.out.1 H4.out.2.1 H4.out.2.2)
    have r5 := RowIs.of (b := b5) (n := 1) (mo.cell 5) (m0.rows (v13.heap.size, #[.int .i64 (plConn C n)]) (by simp)) (by omega) (el1 H5.out)
    have six := six_of r0 r1 r2 r3 r4 r5 mo.lt m0.be m0.hB
    go_upto_region 10 with (fail)
    clear n0 n1 n2 n3 n4 n5 n6 n7 n8 n9 n10 n11 n12 n13 n14 n15 n16 n17 n18 n19 H00 H1 H2 H3 H4 H5 m0 mo r0 r1 r2 r3 r4 r5
    rw [show (v13.alloc (.cells #[.int .i64 (plConn C n)] 3)).heap.size = v13.heap.size + 1 by simp] at six
    generalize (v13.alloc (.cells #[.int .i64 (plConn C n)] 3)).alloc (.cells #[.slice (some ⟨v3.heap.size, 0, none⟩) 3 3, .slice (some ⟨v4.heap.size, 0, none⟩) 1 1, .slice (some ⟨v5.heap.size, 0, none⟩) 1 1, .slice (some ⟨v9.heap.size, 0, none⟩) 4 4, .slice (some ⟨v12.heap.size, 0, none⟩) 3 3, .slice (some ⟨v13.heap.size, 0, none⟩) 1 1] 42) = u0 at *
    generalize v13.heap.size + 1 = O at *
    go_loopw [127] (fun a W => ∃ m : Nat, m ≤ 6 ∧ a = .int .i64 m ∧ Six w B O [false, false, false, b3, b4, b5] W) (fun a _ => 6 - (intOf a).toNat)
    case atStart => exact ⟨0, by omega, rfl, six⟩
    case round =>
      clear six
      obtain ⟨m, hm, rfl, six⟩ := hrel
      by_cases hlt : m < 6
      · obtain ⟨g, nn, hrow⟩ := six.row m hlt
        have c0 := hrow.at_
        have c1 := ((Lies.new wr 4 #[.bool false, .bool false, .bool false, .bool b3, .bool b4, .bool b5]).cell m).trans (bools_at false false false b3 b4 b5 m hlt)
        generalize [false, false, false, b3, b4, b5].getD m false = b at *
        have k1 : Below wr.heap.size wr (wr.alloc (.cells #[.bool false, .bool false, .bool false, .bool b3, .bool b4, .bool b5] 4)) := (Below.refl _ _).alloc (Nat.le_refl _) _
        have six1 := six.next k1
        have row1 := hrow.next six.hO k1
        go_upto_region 13 with (fail)
        clear c0 c1 k1 six hrow
        generalize wr.alloc (.cells #[.bool false, .bool false, .bool false, .bool b3, .bool b4, .bool b5] 4) = u1 at *
        have HX := Lib.hid six1
        clear six1
        have hnn := row1.le
        go_wp2_with fail
        go_loop [144] (fun a => ∃ j : Nat, j ≤ nn ∧ a = .int .i64 j) (fun a => nn - (intOf a).toNat)
        case atStart => exact ⟨0, by omega, rfl⟩
        case round =>
          obtain ⟨j, hj, rfl⟩ := hrel
          by_cases hjl : j < nn
          · obtain ⟨x, hx, hg⟩ := row1.el j hjl
            rcases hg with ⟨rfl, hx0⟩ | ⟨rfl, rfl⟩
            · go_wp2
              go_round
              case rel => exact ⟨j + 1, by omega, by go_num⟩
              case measure => simp [intOf]; omega
            · go_wp2
              go_round
              case rel => exact ⟨j + 1, by omega, by go_num⟩
              case measure => simp [intOf]; omega
          · go_wp2
            go_roundw
            case rel => exact ⟨m + 1, by omega, by go_num, HX.out⟩
            case measure => simp [intOf]; omega
      · go_wp2
        go_ret
        exact ⟨rfl, by rw [HBE.out]; exact six.be⟩

theorem none_law (C : Nat → Int) (s k i n : Int) (w : World) (ht : Tab w) :
    Calls Tryd.prog 5 #[.agg (ic C), .int .i64 s, .int .i64 k, .int .i64 i, .int .i64 n] w fun r w' => r = .returned (.bool true) ∧ Below w.heap.size w w' := by
  rcases Classical.em (Right C) with hr | hr
  · exact none_yes C s k i n w ht hr
  · exact none_no C s k i n w ht hr

end Go.Proofs.YtgbepebihlmedaaDoor
