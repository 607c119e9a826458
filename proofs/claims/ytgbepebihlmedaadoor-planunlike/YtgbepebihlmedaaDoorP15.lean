/- The law: unlike cells have unlike places, and there are no others. -/
import Derived.Test.YtgbepebihlmedaaDoorP14
import Derived.Test.YtgbepebihlmedaaDoorC8
namespace Go.Proofs.YtgbepebihlmedaaDoor
open Go.RowKit

/-- m marks, the rest 0. -/
def marks (Z m : Nat) : Array Value := ((List.range Z).map fun i => Value.int .i64 (if i < m then 1 else 0)).toArray
theorem marks_size (Z m : Nat) : (marks Z m).size = Z := by simp [marks]
theorem marks_at {Z m i : Nat} (h : i < Z) : (marks Z m)[i]? = some (.int .i64 (if i < m then 1 else 0)) := by simp [marks, h]
theorem marks_set {Z m : Nat} (h : m < Z) : (marks Z m).setIfInBounds m (.int .i64 1) = marks Z (m + 1) := by
  apply Array.ext_getElem?
  intro i
  by_cases hi : i < Z
  · rw [marks_at hi, Array.getElem?_setIfInBounds, marks_size]
    by_cases he : m = i
    · subst he; simp [h]
    · rw [if_neg he, marks_at hi]
      have : (i < m) = (i < m + 1) := by simp; omega
      simp only [this]
  · rw [Array.getElem?_eq_none (by simp [marks]; omega), Array.getElem?_eq_none (by simp [marks]; omega)]
theorem made_marks (n : Nat) : madeCells #[.int .i64 0] n = marks n 0 := by
  apply Array.ext
  · simp [madeCells, marks]
  · intro i h1 h2
    simp [madeCells, marks, Nat.mod_one]
theorem make_ints (n : Nat) (hn : n ≤ 1048576) (W : World) :
    (Instr.makeSlice 42 (.int .i64 (n : Int)) (.int .i64 (n : Int))).run Tryd.prog W = .ok (.slice (some ⟨W.heap.size, 0, none⟩) n n) (W.alloc (.cells (marks n 0) 3)) := by
  obtain ⟨i, hi, hz, hs, hb⟩ := info_parts (P := Tryd.prog) (t := 3) (z := .int .i64 0) (s := 1) (b := 8) (by kernel_rfl)
  have hr := run_make (P := Tryd.prog) W 42 3 i _ Tryd.underlying42 hi hz .i64 .i64 n n (by omega) (by omega) (by rw [hb]; omega) (by omega)
  simp only [Int.toNat_natCast, hs, Nat.mul_one] at hr
  rw [hr, ← made_marks]
  rfl

/-- in the midst of the marking. -/
structure Mark (w : World) (B M g Z m : Nat) (W : World) : Prop where
  ma : Lies W M 3 (marks Z m)
  li : ∀ i, i < Z → W.cell? ⟨g, i, none⟩ = some (.int .i64 (i : Nat))
  gl : g < W.heap.size
  ne : M < g
  hM : B ≤ M
  be : Below B w W
theorem Mark.set {w : World} {B M g Z m : Nat} {W : World} (h : Mark w B M g Z m W) (hm : m < Z) : Mark w B M g Z (m + 1) (W.setCell ⟨M, m, none⟩ (.int .i64 1)) := by
  refine ⟨?_, fun i hi => ?_, by simpa [World.setCell] using h.gl, h.ne, h.hM, h.be.setCell h.hM _⟩
  · have := h.ma.set m (.int .i64 1)
    rwa [marks_set hm] at this
  · have k : Turns [M] W (W.setCell ⟨M, m, none⟩ (.int .i64 1)) := (Turns.refl _ _).setCell (.inl (by simp)) _
    rw [k.cell h.gl (by have := h.ne; simp; omega)]
    exact h.li i hi

theorem unlike_no (C : Nat → Int) (w : World) (ht : Tab w) (hr : ¬ Right C) :
    Calls Tryd.prog 4 #[.agg (ic C)] w fun r w' => r = .returned (.bool true) ∧ Below w.heap.size w w' := by
  obtain ⟨l0, b0, t0⟩ := boxed3 C w ht 23
  have h0 : Box w w.heap.size C (w.alloc (.cells (ic C) 23)) := ⟨l0, b0, t0⟩
  clear l0 b0 t0
  go_enter Tryd.func4, Tryd.ntmps4
  go_wp2_with fail
  generalize hBe : w.heap.size = B at *
  have HBE := Lib.hid hBe
  clear hBe
  generalize w.alloc (.cells (ic C) 23) = w0 at *
  refine (speaks3_any _ h0.t).mono ?_
  rintro r w1 ⟨rfl, b1⟩
  have h1 := h0.next b1
  clear b1 h0
  obtain ⟨d0, d1, d2, d3, d4, d5, d6, d7, d8, d9, d10, d11, d12⟩ := h1.l.thir
  go_wp2_with fail
  refine (right_no C _ hr).mono ?_
  rintro r w2 ⟨rfl, b2⟩
  have h2 := h1.next b2
  clear b2 h1 d0 d1 d2 d3 d4 d5 d6 d7 d8 d9 d10 d11 d12
  go_wp2_with fail
  refine (speaks3_any _ h2.t).mono ?_
  rintro r w3 ⟨rfl, b3⟩
  have h3 := h2.next b3
  clear b3 h2
  go_wp2
  go_ret
  exact ⟨rfl, by rw [HBE.out]; exact h3.be⟩

set_option maxRecDepth 100000 in
set_option maxHeartbeats 4000000 in
theorem unlike3_yes (C : Nat → Int) (w : World) (ht : Tab w) (hr : Right C) :
    Calls Tryd.prog 4 #[.agg (ic C)] w fun r w' => r = .returned (.bool true) ∧ Below w.heap.size w w' := by
  obtain ⟨W, L, S, E, N, T, X, hN⟩ := nats hr
  have hz := hN.plZ
  have hzb := (bds hr).z
  have hz0 := (bds hr).d
  have hz1 := (bds hr).b
  have hz2 := (bds hr).a
  generalize hZ : 3 + W * E + N * 4 + T * 3 + X = Z at *
  have HZ := Lib.hid hZ
  have hZb : Z ≤ 74691 := by omega
  have hZ0 : 0 < Z := by omega
  clear hZ hzb hz0 hz1 hz2
  have HZZ := Lib.hid hz
  clear hz
  have HN := Lib.hid hN
  clear hN
  have hmk := make_ints Z (by omega)
  obtain ⟨l0, b0, t0⟩ := boxed3 C w ht 23
  have h0 : Box w w.heap.size C (w.alloc (.cells (ic C) 23)) := ⟨l0, b0, t0⟩
  clear l0 b0 t0
  go_enter Tryd.func4, Tryd.ntmps4
  go_wp2_with fail
  generalize hBe : w.heap.size = B at *
  have HBE := Lib.hid hBe
  clear hBe
  generalize w.alloc (.cells (ic C) 23) = w0 at *
  refine (speaks3_any _ h0.t).mono ?_
  rintro r w1 ⟨rfl, b1⟩
  have h1 := h0.next b1
  clear b1 h0
  obtain ⟨d0, d1, d2, d3, d4, d5, d6, d7, d8, d9, d10, d11, d12⟩ := h1.l.thir
  go_wp2_with fail
  refine (right_yes C _ hr).mono ?_
  rintro r w2 ⟨rfl, b2⟩
  have h2 := h1.next b2
  clear b2 h1 d0 d1 d2 d3 d4 d5 d6 d7 d8 d9 d10 d11 d12
  obtain ⟨d0, d1, d2, d3, d4, d5, d6, d7, d8, d9, d10, d11, d12⟩ := h2.l.thir
  go_wp2_with fail
  refine (rsize_any C _ hr).mono ?_
  rintro r w3 ⟨rfl, b3⟩
  rw [HZZ.out]
  have h3 := h2.next b3
  clear b3 h2 d0 d1 d2 d3 d4 d5 d6 d7 d8 d9 d10 d11 d12
  by_cases hbig : (20000 : Int) < Z
  · go_wp2_with fail
    refine (speaks3_any _ h3.t).mono ?_
    rintro r w4 ⟨rfl, b4⟩
    have h4 := h3.next b4
    clear b4 h3
    go_wp2
    go_ret
    exact ⟨rfl, by rw [HBE.out]; exact h4.be⟩
  · obtain ⟨d0, d1, d2, d3, d4, d5, d6, d7, d8, d9, d10, d11, d12⟩ := h3.l.thir
    go_wp2_with fail
    refine (lawof_any C _).mono ?_
    rintro r w4 ⟨rfl, b4⟩
    have h4 := h3.next b4
    clear b4 h3 d0 d1 d2 d3 d4 d5 d6 d7 d8 d9 d10 d11 d12
    go_wp2_with fail
    refine (new_yes C _ h4.t hr).mono ?_
    rintro r w5 ⟨p, rfl, hp0, hp5, b5⟩
    have h5 := h4.next b5
    clear b5 h4 hp0
    obtain ⟨d0, d1, d2, d3, d4, d5, d6, d7, d8, d9, d10, d11, d12⟩ := h5.l.thir
    go_wp2_with fail
    refine (rsize_any C _ hr).mono ?_
    rintro r w6 ⟨rfl, b6⟩
    rw [HZZ.out]
    have h6 := h5.next b6
    have hp6 := hp5.keep b6 hp5.lt
    clear b6 h5 hp5 d0 d1 d2 d3 d4 d5 d6 d7 d8 d9 d10 d11 d12
    go_upto_region 7 with (fail)
    have lm := Lies.new w6 3 (marks Z 0)
    have kb : Below w6.heap.size w6 (w6.alloc (.cells (marks Z 0) 3)) := (Below.refl _ _).alloc (Nat.le_refl _) _
    have h7 := h6.next kb
    have hp7 := hp6.keep kb hp6.lt
    have hBM : B ≤ w6.heap.size := Nat.le_of_lt h6.l.lt
    clear h6 hp6 kb hmk
    generalize w6.alloc (.cells (marks Z 0) 3) = w7 at *
    generalize w6.heap.size = M at *
    obtain ⟨d0, d1, d2, d3, d4, d5, d6, d7, d8, d9, d10, d11, d12⟩ := h7.l.thir
    go_wp2_with fail
    refine (cells_any C p _ hp7 hr W L S E N T X HN.out).mono ?_
    rintro r w8 ⟨g, cap, rfl, hg, hgl, hat, b8⟩
    rw [HZ.out]
    rw [HZ.out] at hat
    have h8 := h7.next b8
    have mk : Mark w B M g Z 0 w8 := ⟨lm.below b8 lm.lt, hat, hgl, by have := lm.lt; omega, hBM, h8.be⟩
    clear b8 h7 hp7 lm hg hgl hat h8 hBM d0 d1 d2 d3 d4 d5 d6 d7 d8 d9 d10 d11 d12
    go_wp2_with fail
    go_loopw [42] (fun a u => ∃ m : Nat, m ≤ Z ∧ a = .int .i64 m ∧ Mark w B M g Z m u) (fun a _ => Z - (intOf a).toNat)
    case atStart => exact ⟨0, by omega, rfl, mk⟩
    case round =>
      clear mk
      obtain ⟨m, hm, rfl, mk⟩ := hrel
      by_cases hlt : m < Z
      · have c0 := mk.li m hlt
        have c1 := (mk.ma.cell m).trans (marks_at hlt)
        have f1 := mk.ma.frozen m
        rw [if_neg (Nat.lt_irrefl m)] at c1
        have HI := Lib.hid (show inB (m : Int) (Z : Int) = true from inB_iff.2 ⟨by omega, by omega⟩)
        go_wp2_with fail
        refine (in_any _ _ _).mono ?_
        rintro r u1 ⟨rfl, rfl⟩
        rw [HI.out]
        go_wp2
        go_roundw
        case rel => exact ⟨m + 1, by omega, by go_num, mk.set hlt⟩
        case measure => simp [intOf]; omega
      · go_wp2
        go_ret
        exact ⟨rfl, by rw [HBE.out]; exact mk.be⟩

theorem unlike3_law (C : Nat → Int) (w : World) (ht : Tab w) :
    Calls Tryd.prog 4 #[.agg (ic C)] w fun r w' => r = .returned (.bool true) ∧ Below w.heap.size w w' := by
  rcases Classical.em (Right C) with hr | hr
  · exact unlike3_yes C w ht hr
  · exact unlike_no C w ht hr

end Go.Proofs.YtgbepebihlmedaaDoor
