/- The law: a task that is finished by Finish does the same as one whose every step is picked. -/
import Derived.Test.YtgnfgpengoafkaaQ14
namespace Go.Proofs.Ytgnfgpengoafkaa
open Go.RowKit

section
variable {B p c sb ns : Nat} {LL : List Nat}
/-- a single task, picked over and over. -/
theorem pick_zero (j : Nat) (xs : List Act4) (s : ASt) (q : Nat → Nat × List Act4) (d : Nat → Nat) (hq : q 0 = (j, xs)) : ∀ m, m ≤ 40 →
    (pickTo (AM B p c sb ns LL) 1 ⟨s, q, d, 0⟩ (List.replicate 40 0) m).s = actsTo s j xs m ∧ (pickTo (AM B p c sb ns LL) 1 ⟨s, q, d, 0⟩ (List.replicate 40 0) m).q 0 = (j, xs.drop m) ∧
      (pickTo (AM B p c sb ns LL) 1 ⟨s, q, d, 0⟩ (List.replicate 40 0) m).d 0 = d 0 + min m xs.length ∧ (pickTo (AM B p c sb ns LL) 1 ⟨s, q, d, 0⟩ (List.replicate 40 0) m).n = min m xs.length
  | 0, _ => ⟨rfl, by simp [pickTo, hq], by simp [pickTo], by simp [pickTo]⟩
  | m + 1, hm => by
    obtain ⟨h1, h2, h3, h4⟩ := pick_zero j xs s q d hq m (by omega)
    rw [pickTo_succ _ _ _ _ _ (by simp; omega)]
    have e0 : ∀ k, m < k → (List.replicate k (0 : Int)).getD m 0 = 0 := fun k hk => by simp [List.getD, hk]
    have e0 := e0 40 (by omega)
    rw [e0]
    generalize pickTo (AM B p c sb ns LL) 1 ⟨s, q, d, 0⟩ (List.replicate 40 0) m = k at *
    have hdo : doesP (AM B p c sb ns LL) 1 k 0 = !decide (xs.length ≤ m) := by
      unfold doesP
      rw [show (0 : Int).toNat = 0 from rfl, h2, am_endedX]
      simp
    by_cases hl : xs.length ≤ m
    · rw [pick1_no (by rw [hdo]; simp [hl])]
      refine ⟨?_, ?_, by rw [h3]; omega, by rw [h4]; omega⟩
      · rw [h1, actsTo_all hl, actsTo_all (i := m + 1) (by omega)]
      · rw [h2, List.drop_eq_nil_iff.2 hl, List.drop_eq_nil_iff.2 (show xs.length ≤ m + 1 by omega)]
    · have hx : xs[m]? = some xs[m] := List.getElem?_eq_getElem (by omega)
      have e1 : xs.drop m = xs[m] :: xs.drop (m + 1) := List.drop_eq_getElem_cons (by omega)
      have e2 : (AM B p c sb ns LL).step (k.q 0) k.s = ((j, xs.drop (m + 1)), actsTo s j xs (m + 1)) := by
        rw [h2, e1, h1, actsTo_succ hx]
        rfl
      unfold pick1
      rw [if_pos (by rw [hdo]; simp [hl]), show (0 : Int).toNat = 0 from rfl, e2]
      refine ⟨rfl, by simp [updF], ?_, ?_⟩
      · simp [updF]; omega
      · simp; omega
end

theorem make_ints40 (W : World) : (Instr.makeSlice 23 (.int .i64 40) (.int .i64 40)).run Try.prog W = .ok (.slice (some ⟨W.heap.size, 0, none⟩) 40 40) (W.alloc (.cells (madeCells #[.int .i64 0] 40) 3)) := by
  obtain ⟨i, hi, hz, hs, hb⟩ := info_parts (P := Try.prog) (t := 3) (z := .int .i64 0) (s := 1) (b := 8) (by kernel_rfl)
  have hr := run_make (P := Try.prog) W 23 3 i _ Try.underlying23 hi hz .i64 .i64 40 40 (by omega) (by omega) (by rw [hb]; omega) (by omega)
  simp only [hs, Nat.mul_one] at hr
  exact hr

/-- two arenas and two sums that have just been made. -/
structure Fresh2 (w : World) (N : Nat) (W : World) : Prop where
  a1 : AI (N + 1) N (N + 4) 1 1000 zeroS W
  a2 : AI (N + 3) (N + 2) (N + 5) 1 1000 zeroS W
  be : Below w.heap.size w W
  size : W.heap.size = N + 6
  le : w.heap.size ≤ N
theorem fresh2 {w w1 w2 w3 : World} (h : Below w.heap.size w w1) (hm : Made w1 4 w2) (hm3 : Made w2 4 w3) : Fresh2 w w1.heap.size ((w3.alloc (.cells #[.int .u64 0] 44)).alloc (.cells #[.int .u64 0] 44)) := by
  obtain ⟨h1, h2, h3⟩ := hm
  obtain ⟨k1, k2, k3⟩ := hm3
  have hs := h.size
  rw [h3] at k1 k3
  have e3 : w3.heap.size = w1.heap.size + 4 := by omega
  have tu : Turns [] w3 ((w3.alloc (.cells #[.int .u64 0] 44)).alloc (.cells #[.int .u64 0] 44)) := ((Turns.refl _ _).alloc _).alloc _
  refine ⟨⟨?_, by decide, ?_, fun _ => by simp [N64, zeroS]⟩, ⟨k1.turn tu (by simp) (by simp), by decide, ?_, fun _ => by simp [N64, zeroS]⟩, (((h.trans (h2.mono hs)).trans (k2.mono (by omega))).alloc (by omega) _).alloc (by simp; omega) _, by simp; omega, hs⟩
  · exact (h1.below k2 (by omega) (by omega)).turn tu (by simp) (by simp)
  · exact (Lies.new_at _ _ e3).alloc _
  · exact Lies.new_at _ _ (by simp; omega)

theorem made40 (i : Nat) (hi : i < 40) : (madeCells #[.int .i64 0] 40)[i]? = some (.int .i64 0) := by
  simp [madeCells, hi, Nat.mod_one]

/-- the single task's slice, and 40 picks. -/
structure One40 (L : List Nat) (t S : Nat) (W : World) : Prop where
  row : TRow W L (some ⟨S, 0, none⟩) 1 (fun _ => t)
  picks : RowX W (tsL 1 (fun _ => t) ++ L) (some ⟨S + 1, 0, none⟩) 40 (List.replicate 40 0)
theorem one40 {L : List Nat} {t : Nat} {w : World} (ht : t < w.heap.size) (hL : ∀ b, b ∈ L → b < w.heap.size) :
    One40 L t w.heap.size ((w.alloc (.cells #[ptr t] 38)).alloc (.cells (madeCells #[.int .i64 0] 40) 3)) := by
  have h1 : Lies ((w.alloc (.cells #[ptr t] 38)).alloc (.cells (madeCells #[.int .i64 0] 40) 3)) w.heap.size 38 #[ptr t] := (Lies.new _ _ _).alloc _
  have h2 : Lies ((w.alloc (.cells #[ptr t] 38)).alloc (.cells (madeCells #[.int .i64 0] 40) 3)) (w.heap.size + 1) 3 (madeCells #[.int .i64 0] 40) := Lies.new_at _ _ (by simp)
  refine ⟨⟨by decide, fun i j hi hj _ => by omega, fun _ => ⟨_, rfl, h1.lt, fun hm => ?_, fun i hi => ?_, fun i hi => ?_⟩⟩, ⟨⟨by simp, by decide, fun x hx => ?_, fun _ => ⟨_, rfl, h2.lt, fun i hi => ?_⟩⟩, fun _ a e => ?_⟩⟩
  · have := hL _ hm; simp at this
  · simp; omega
  · obtain rfl : i = 0 := by omega
    rw [add_head4, h1.cell 0]
    rfl
  · rw [List.eq_of_mem_replicate hx]; decide
  · rw [add_head4, h2.cell i, made40 i hi]
    have : ∀ k, i < k → (List.replicate k (0 : Int)).getD i 0 = 0 := fun k hk => by simp [List.getD, hk]
    rw [this 40 hi]
  · injection e with e
    subst e
    rw [List.mem_append, tsL_mem]
    rintro (⟨i, hi, e⟩ | hm)
    · simp at e; omega
    · have := hL _ hm
      simp at this
      omega

set_option maxHeartbeats 4000000 in
theorem alone7_law (A : Option Addr) (n cp : Nat) (F : Nat → Nat → Int) (w : World) (hr : Acts w A n F) (hcp : n ≤ cp) :
    Calls Try.prog 6 #[.slice A n cp] w fun e w' => e = .returned (.bool true) ∧ Below w.heap.size w w' := by
  have hmx := hr.most
  unfold maxLen at hmx
  by_cases hlen : n ≤ 30
  · have hmk := make_ints40
    go_enter Try.func6, Try.ntmps6
    go_wp2_with fail
    refine (speaks7_any _).mono ?_
    rintro e w1 ⟨rfl, hb1⟩
    go_wp2_with fail
    refine (new_any 4 w1 (by omega) (by omega)).mono ?_
    rintro e w2 ⟨rfl, hm2⟩
    go_wp2_with fail
    refine (new_any 4 w2 (by omega) (by omega)).mono ?_
    rintro e w3 ⟨rfl, hm3⟩
    go_upto_region 8 with (fail)
    have E2 : w2.heap.size = w1.heap.size + 2 := hm2.2.2
    have E3 : w3.heap.size = w2.heap.size + 2 := hm3.2.2
    have hF := fresh2 hb1 hm2 hm3
    generalize ((w3.alloc (.cells #[.int .u64 0] 44)).alloc (.cells #[.int .u64 0] 44)) = w4 at *
    simp only [E3, E2, Nat.add_assoc, Nat.reduceAdd]
    clear hm2 hm3 hb1 E2 E3
    generalize w1.heap.size = N at *
    obtain ⟨xs, hxs⟩ : ∃ xs, actsL n F = xs := ⟨_, rfl⟩
    have hxl : xs.length = n := by rw [← hxs, actsL_length]
    have hsz4 := hF.size
    have hle := hF.le
    obtain ⟨LL, hLL⟩ : ∃ LL, [N, N + 1, N + 2, N + 3, N + 4, N + 5] = LL := ⟨_, rfl⟩
    have hLLge : ∀ b, b ∈ LL → w.heap.size ≤ b := fun b hb => by rw [← hLL] at hb; simp at hb; omega
    have hLLlt : ∀ b, b ∈ LL → b < w4.heap.size := fun b hb => by rw [← hLL] at hb; simp at hb; omega
    have hB1 : Blocks w.heap.size (N + 1) N (N + 4) LL := ⟨by rw [← hLL]; simp, by rw [← hLL]; simp, by rw [← hLL]; simp⟩
    have hB2 : Blocks w.heap.size (N + 3) (N + 2) (N + 5) LL := ⟨by rw [← hLL]; simp, by rw [← hLL]; simp, by rw [← hLL]; simp⟩
    have ok1 : (AM w.heap.size (N + 1) N (N + 4) 1 LL).Ok := am_ok hB1.p hB1.c hB1.s
    have ok2 : (AM w.heap.size (N + 3) (N + 2) (N + 5) 1 LL).Ok := am_ok hB2.p hB2.c hB2.s
    have hA4 := hr.in_ hF.be hLLge
    rw [hxs] at hA4
    have cc1 := codes_for (ns := 1) hB1 1000 xs A cp 0 w4 hA4 (by omega) (by omega) hLLlt (by omega)
    rw [hxl] at cc1
    clear hA4
    go_wp2_with fail
    refine cc1.mono ?_
    rintro e w5 ⟨v1, rfl, hc5, hb5⟩
    have hcode := hc5.code
    go_wp2_with fail
    refine (newtask_any v1 hcode w5).mono ?_
    rintro e w6 ⟨rfl, rfl⟩
    have hs5 := hb5.size
    have tu6 : Turns [] w4 (w5.alloc (.cells #[v1, .int .i64 0] 71)) := (Turns.of_below hb5 (Nat.le_refl _)).alloc _
    have k6 := TaskAt.made (M := AM w.heap.size (N + 1) N (N + 4) 1 LL) hc5 (fun b hb => Nat.lt_of_lt_of_le (hLLlt b hb) hs5) (by show w.heap.size ≤ _; omega)
    have hs6 : (w5.alloc (.cells #[v1, .int .i64 0] 71)).heap.size = w5.heap.size + 1 := by simp
    generalize (w5.alloc (.cells #[v1, .int .i64 0] 71)) = w6 at *
    generalize w5.heap.size = t1 at *
    have be6 := hF.be.trans (tu6.below (B := w.heap.size) (by simp) (by omega))
    have hA6 := hr.in_ be6 hLLge
    rw [hxs] at hA6
    have cc2 := codes_for (ns := 1) hB2 1000 xs A cp 0 w6 hA6 (by omega) (by omega) (fun b hb => by have := hLLlt b hb; omega) (by omega)
    rw [hxl] at cc2
    clear hA6 cc1 hc5 hb5 hcode
    go_wp2_with fail
    refine cc2.mono ?_
    rintro e w7 ⟨v2, rfl, hc7, hb7⟩
    have hcode := hc7.code
    go_wp2_with fail
    refine (newtask_any v2 hcode w7).mono ?_
    rintro e w8 ⟨rfl, rfl⟩
    have hs7 := hb7.size
    have tu8 : Turns [] w6 (w7.alloc (.cells #[v2, .int .i64 0] 71)) := (Turns.of_below hb7 (Nat.le_refl _)).alloc _
    have k8 := TaskAt.made (M := AM w.heap.size (N + 3) (N + 2) (N + 5) 1 LL) hc7 (fun b hb => by have := hLLlt b hb; omega) (by show w.heap.size ≤ _; omega)
    have hs8 : (w7.alloc (.cells #[v2, .int .i64 0] 71)).heap.size = w7.heap.size + 1 := by simp
    generalize (w7.alloc (.cells #[v2, .int .i64 0] 71)) = w8 at *
    generalize w7.heap.size = t2 at *
    have be8 := be6.trans (tu8.below (B := w.heap.size) (by simp) be6.size)
    have U : Und w.heap.size (N + 1) N (N + 4) 1 LL 1000 0 xs zeroS 0 0 t1 w8 w8 := ⟨k6.turns tu8 (Moves.of_turns tu8 (by simp)) (by simp), (hF.a1.turns tu6 (by simp) (by simp) (by simp)).turns tu8 (by simp) (by simp) (by simp), Turns.refl _ _, Moves.refl _ _ _⟩
    have a8 := (hF.a2.turns tu6 (by simp) (by simp) (by simp)).turns tu8 (by simp) (by simp) (by simp)
    have c1 := U.finish (m := 999) ok1 30 (by omega) (by omega) (.inl (by omega)) true (by simp; omega) n (by simp; omega)
    clear U tu6 tu8 hF k6 hc7 hb7 cc2 hcode be6
    go_wp2_with fail
    refine c1.mono ?_
    rintro e w9 ⟨rfl, U⟩
    have U := U.at_ (i' := n) (by simp; omega) (by omega)
    have tu9 := U.tu
    have hs9 := tu9.size
    have k9 := k8.turns tu9 U.mo (by simp; omega)
    have a9 := a8.turns tu9 (by simp; omega) (by simp; omega) (by simp; omega)
    have be9 := be8.trans (tu9.below (B := w.heap.size) (fun b hb => by simp at hb; omega) be8.size)
    have O := one40 (L := (AM w.heap.size (N + 3) (N + 2) (N + 5) 1 LL).L) (t := t2) (w := w9) (by omega) (fun b hb => by have hb : b ∈ [N + 3, N + 2, N + 5] := hb; simp at hb; omega)
    have tu10 : Turns [] w9 ((w9.alloc (.cells #[ptr t2] 38)).alloc (.cells (madeCells #[.int .i64 0] 40) 3)) := ((Turns.refl _ _).alloc _).alloc _
    clear k8 a8 be8 c1
    go_wp2_with fail
    generalize ((w9.alloc (.cells #[ptr t2] 38)).alloc (.cells (madeCells #[.int .i64 0] 40) 3)) = w10 at *
    have hAll : All (AM w.heap.size (N + 3) (N + 2) (N + 5) 1 LL) 1000 1 (fun _ => t2) ⟨zeroS, fun _ => (0, xs), fun _ => 0, 0⟩ w10 := ⟨fun i hi => k9.turns tu10 (Moves.of_turns tu10 (by simp)) (by simp), a9.turns tu10 (by simp) (by simp) (by simp)⟩
    refine (run_any ok2 _ _ 1 _ 40 _ _ _ _ w10 O.row O.picks hAll (by omega) rfl (by intro i _; show 0 + 40 < _; omega)).mono ?_
    rintro e w11 ⟨rfl, R⟩
    obtain ⟨z1, z2, z3, z4⟩ := pick_zero (B := w.heap.size) (p := N + 3) (c := N + 2) (sb := N + 5) (ns := 1) (LL := LL) 0 xs zeroS (fun _ => (0, xs)) (fun _ => 0) rfl 40 (by omega)
    rw [z4, show min 40 xs.length = n by omega]
    have tu11 : Turns [t2, N + 3, N + 2, N + 5] w10 w11 := R.tu.more (fun b hb => .inl (by
      rcases List.mem_append.1 hb with h1 | h1
      · obtain ⟨i, _, e⟩ := tsL_mem.1 h1
        simp [← e]
      · have h1 : b ∈ [N + 3, N + 2, N + 5] := h1
        simp at h1
        simp; omega))
    have T2 := R.all.tk 0 (by omega)
    have A2 : AI (N + 3) (N + 2) (N + 5) 1 (1000 - 40) _ w11 := R.all.inv
    rw [z2, z3] at T2
    rw [z1, actsTo_all (i := 40) (by omega), hxl] at A2
    have A1 := (U.ai.turns tu10 (by simp) (by simp) (by simp)).turns tu11 (by simp; omega) (by simp; omega) (by simp; omega)
    have T1 := (U.tk.turns tu10 (Moves.of_turns tu10 (by simp)) (by simp)).turns tu11 R.mo (by simp; omega)
    have be11 := (be9.trans (tu10.below (B := w.heap.size) (by simp) be9.size)).trans (tu11.below (fun b hb => by simp at hb; omega) (by have := be9.size; have := tu10.size; omega))
    have c1 := ended_any T2
    rw [am_endedX, show decide (xs.length ≤ 40) = true by simp; omega] at c1
    have c2 := steps_any T1
    have c3 := steps_any T2
    rw [show 0 + min 40 xs.length = n by omega] at c3
    have q1 := A1.sum.cell 0
    have q2 := A2.sum.cell 0
    rw [show (sumsV 1 (actsTo zeroS 0 xs n).x)[0]? = some (.int .u64 ((actsTo zeroS 0 xs n).x 0)) from vec_at (by omega)] at q1 q2
    generalize (actsTo zeroS 0 xs n).x 0 = xx at *
    have ar1 := A1.ar
    have ar2 := A2.ar
    generalize (actsTo zeroS 0 xs n).l = ll at *
    generalize (actsTo zeroS 0 xs n).k = kk at *
    have hlm := ar1.most
    clear U k9 a9 be9 O hAll R tu9 tu10 tu11 T1 T2 A1 A2 z1 z2 z3 z4
    go_wp2_with fail
    refine c1.mono ?_
    rintro e w' ⟨rfl, rfl⟩
    go_wp2_with fail
    refine c2.mono ?_
    rintro e w' ⟨rfl, rfl⟩
    go_wp2_with fail
    refine c3.mono ?_
    rintro e w' ⟨rfl, rfl⟩
    go_wp2_with fail
    refine (all_any _ _ _ _ _ ar1).mono ?_
    rintro e w12 ⟨rfl, h12⟩
    obtain ⟨l12, b12, s12⟩ := h12
    have ar3 := ar2.below b12 ar2.head.lt ar2.body.lt
    have be12 := be11.trans (b12.mono be11.size)
    generalize hsl : w'.heap.size = SL at *
    clear ar1 ar2 be11 c1 c2 c3 q1 q2 b12 hsl
    go_wp2_with fail
    go_loopw [83] (fun u wr => ∃ m : Nat, m ≤ ll.length ∧ u = .int .i64 m ∧ Below w12.heap.size w12 wr) (fun u _ => ll.length - (intOf u).toNat)
    case atStart => exact ⟨0, by omega, rfl, Below.refl _ _⟩
    case round =>
      obtain ⟨m, hm, rfl, hbr⟩ := hrel
      by_cases hlt : m < ll.length
      · have e1 := (l12.below hbr l12.lt).cell m
        rw [nums_at hlt] at e1
        have ar4 := ar3.below hbr ar3.head.lt ar3.body.lt
        have c1 := all_any _ _ _ _ _ ar4
        have hy : ∀ w13, Told wr ll w13 → w13.cell? ⟨wr.heap.size, m, none⟩ = some (.int .u64 (getA ll m)) := fun w13 h => by
          have := h.1.cell m
          rwa [nums_at hlt] at this
        generalize getA ll m = y at *
        clear ar4
        go_wp2_with fail
        refine c1.mono ?_
        rintro e w13 ⟨rfl, h13⟩
        have e2 := hy w13 h13
        have b13 := Lib.hid (hbr.trans (h13.2.1.mono hbr.size))
        generalize wr.heap.size = S2 at *
        clear h13 hy c1
        go_wp2
        go_roundw
        case rel => exact ⟨m + 1, by omega, by go_num, b13.out⟩
        case measure => simp [intOf]; omega
      · obtain rfl : m = ll.length := by omega
        go_wp2
        go_ret
        exact ⟨rfl, be12.trans (hbr.mono be12.size)⟩
  · go_enter Try.func6, Try.ntmps6
    go_wp2_with fail
    refine (speaks7_any _).mono ?_
    rintro e w1 ⟨rfl, hb1⟩
    go_wp2_with fail
    refine (speaks7_any _).mono ?_
    rintro e w2 ⟨rfl, hb2⟩
    go_wp2
    go_ret
    exact ⟨rfl, hb1.trans (hb2.mono hb1.size)⟩

end Go.Proofs.Ytgnfgpengoafkaa
