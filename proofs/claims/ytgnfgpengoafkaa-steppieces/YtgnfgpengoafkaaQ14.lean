/- The law: each step touches the cells once at most; a task ends behind just as many steps as it has. -/
import Derived.Test.YtgnfgpengoafkaaQ13
namespace Go.Proofs.Ytgnfgpengoafkaa
open Go.RowKit

def zeroS : ASt := ⟨[0, 0, 0, 0], 0, fun _ => 0⟩

section
variable {B p c sb ns : Nat} {LL : List Nat}
theorem AI.again {r : Nat} {s : ASt} {w : World} (h : AI p c sb ns r s w) (q : Nat) (hk : s.k + q ≤ 4611686018427387904) : AI p c sb ns q s w := ⟨h.ar, hk, h.sum, h.fit⟩
end

section
variable {B p c sb ns : Nat} {LL : List Nat}
theorem am_endedX (j : Nat) (xs : List Act4) (i : Nat) : (AM B p c sb ns LL).ended (j, xs.drop i) = decide (xs.length ≤ i) := by
  have := am_ended (B := B) (p := p) (c := c) (sb := sb) (ns := ns) (LL := LL) j xs zeroS 0 i
  rw [am_run] at this
  exact this
/-- a task under way, in plain words. -/
structure Und (B p c sb ns : Nat) (LL : List Nat) (m j : Nat) (xs : List Act4) (s : ASt) (i : Nat) (d t : Nat) (w W : World) : Prop where
  tk : TaskAt (AM B p c sb ns LL) m (j, xs.drop i) d t W
  ai : AI p c sb ns m (actsTo s j xs i) W
  tu : Turns [t, p, c, sb] w W
  mo : Moves B LL w W
theorem Und.ended {m j : Nat} {xs : List Act4} {s : ASt} {i d t : Nat} {w W : World} (h : Und B p c sb ns LL m j xs s i d t w W) (b : Bool) (hb : decide (xs.length ≤ i) = b) :
    Calls Try.prog 16 #[ptr t] W fun e w' => e = .returned (.bool b) ∧ w' = W := by
  have := ended_any h.tk
  rwa [am_endedX, hb] at this
theorem Und.steps {m j : Nat} {xs : List Act4} {s : ASt} {i d t : Nat} {w W : World} (h : Und B p c sb ns LL m j xs s i d t w W) :
    Calls Try.prog 18 #[ptr t] W fun e w' => e = .returned (.int .i64 d) ∧ w' = W := steps_any h.tk
theorem Und.count {m j : Nat} {xs : List Act4} {s : ASt} {i d t : Nat} {w W : World} (h : Und B p c sb ns LL m j xs s i d t w W) :
    Calls Try.prog 13 #[ptr p] W fun e w' => e = .returned (.int .i64 (actsTo s j xs i).k) ∧ w' = W := (count_any h.ai.ar).mono fun _ _ hh => ⟨hh.1, hh.2.symm⟩
theorem Und.next {m j : Nat} {xs : List Act4} {s : ASt} {i d t : Nat} {w W : World} (hok : (AM B p c sb ns LL).Ok) (h : Und B p c sb ns LL (m + 1) j xs s i d t w W) (hd : d < 4611686018427387904) (b : Bool) (hb : decide (xs.length ≤ i + 1) = b) (d' : Nat) (hd' : d' = d + (min (i + 1) xs.length - min i xs.length)) :
    Calls Try.prog 20 #[ptr t] W fun e w' => e = .returned (.bool b) ∧ Und B p c sb ns LL m j xs s (i + 1) d' t w w' := by
  refine (step_any hok h.tk h.ai hd).mono ?_
  rintro e w' ⟨he, h1, h2, h3, h4⟩
  have r1 := am_run (B := B) (p := p) (c := c) (sb := sb) (ns := ns) (LL := LL) j xs s d i
  have r2 := am_run (B := B) (p := p) (c := c) (sb := sb) (ns := ns) (LL := LL) j xs s d (i + 1)
  have r3 : runN (AM B p c sb ns LL) (j, xs) s d (i + 1) = (stepQ (AM B p c sb ns LL) (j, xs.drop i) (actsTo s j xs i), stepS (AM B p c sb ns LL) (j, xs.drop i) (actsTo s j xs i), stepD (AM B p c sb ns LL) (j, xs.drop i) (d + min i xs.length)) := by
    show (stepQ _ (runN (AM B p c sb ns LL) (j, xs) s d i).1 _, _, _) = _
    rw [r1]
  rw [r2] at r3
  injection r3 with r4 r5
  injection r5 with r5 r6
  have e6 : stepD (AM B p c sb ns LL) (j, xs.drop i) d = d' := by
    unfold stepD at r6 ⊢
    split at r6 <;> rename_i hh
    · rw [if_pos hh]; omega
    · rw [if_neg hh]; omega
  rw [← r4, am_endedX, hb] at he
  rw [← r4, e6] at h1
  rw [← r5] at h2
  exact ⟨he, h1, h2, h.tu.trans (h3.more (fun b hb => .inl hb)), h.mo.trans h4⟩
theorem actsTo_add (s : ASt) (j : Nat) (xs : List Act4) (i k : Nat) : actsTo (actsTo s j xs i) j (xs.drop i) k = actsTo s j xs (i + k) := by
  unfold actsTo
  rw [List.take_add, List.foldl_append]
theorem Und.finish {m j : Nat} {xs : List Act4} {s : ASt} {i d t : Nat} {w W : World} (hok : (AM B p c sb ns LL).Ok) (h : Und B p c sb ns LL (m + 1) j xs s i d t w W) (most : Int) (hmost : most ≤ 9223372036854775807) (hd : d + (m + 1) < 4611686018427387904) (hm : most ≤ m ∨ xs.length ≤ i + m)
    (b : Bool) (hb : decide (xs.length ≤ i + most.toNat) = b) (d' : Nat) (hd' : d' = d + (min (i + most.toNat) xs.length - min i xs.length)) :
    Calls Try.prog 21 #[ptr t, .int .i64 most] W fun e w' => e = .returned (.bool b) ∧ Und B p c sb ns LL 0 j xs s (i + most.toNat) d' t w w' := by
  have hm' : most ≤ m ∨ (AM B p c sb ns LL).ended (runN (AM B p c sb ns LL) (j, xs.drop i) (actsTo s j xs i) d m).1 = true := by
    rcases hm with h1 | h1
    · exact .inl h1
    · right
      rw [am_ended, List.length_drop]
      simp
      omega
  refine (finish_any hok most hmost h.tk h.ai hd hm').mono ?_
  rw [am_run]
  simp only [List.drop_drop, List.length_drop, actsTo_add]
  rintro e w' ⟨he, h1, h2, h3, h4⟩
  rw [am_endedX, hb] at he
  rw [show d + min most.toNat (xs.length - i) = d' by omega] at h1
  exact ⟨he, h1, h2, h.tu.trans (h3.more (fun b hb => .inl hb)), h.mo.trans h4⟩
theorem Und.at_ {m j : Nat} {xs : List Act4} {s : ASt} {i i' d t : Nat} {w W : World} (h : Und B p c sb ns LL m j xs s i d t w W) (h1 : xs.length ≤ i) (h2 : xs.length ≤ i') : Und B p c sb ns LL m j xs s i' d t w W := by
  refine ⟨?_, ?_, h.tu, h.mo⟩
  · have := h.tk
    rwa [List.drop_eq_nil_iff.2 h1, ← List.drop_eq_nil_iff.2 h2] at this
  · have := h.ai
    rwa [actsTo_all h1, ← actsTo_all h2] at this
end

/-- an arena and a sum that have just been made. -/
structure Fresh1 (w : World) (N : Nat) (W : World) : Prop where
  ai : AI (N + 1) N (N + 2) 1 1000 zeroS W
  be : Below w.heap.size w W
  size : W.heap.size = N + 3
  le : w.heap.size ≤ N
theorem fresh1 {w w1 w2 : World} (h : Below w.heap.size w w1) (hm : Made w1 4 w2) : Fresh1 w w1.heap.size (w2.alloc (.cells #[.int .u64 0] 44)) := by
  obtain ⟨h1, h2, h3⟩ := hm
  have hs := h.size
  refine ⟨⟨h1.turn (L := []) ((Turns.refl _ _).alloc _) (by simp) (by simp), by decide, ?_, fun _ => by simp [N64, zeroS]⟩, (h.trans (h2.mono hs)).alloc (by omega) _, by simp; omega, hs⟩
  exact Lies.new_at _ _ h3

set_option maxHeartbeats 4000000 in
theorem one7_law (A : Option Addr) (n cp : Nat) (most : Int) (F : Nat → Nat → Int) (w : World) (hr : Acts w A n F) (hcp : n ≤ cp) (hmost : most ≤ 9223372036854775807) :
    Calls Try.prog 4 #[.slice A n cp, .int .i64 most] w fun e w' => e = .returned (.bool true) ∧ Below w.heap.size w w' := by
  have hmx := hr.most
  unfold maxLen at hmx
  by_cases hlen : n ≤ 30
  · go_enter Try.func4, Try.ntmps4
    go_wp2_with fail
    refine (speaks7_any _).mono ?_
    rintro e w1 ⟨rfl, hb1⟩
    go_wp2_with fail
    refine (new_any 4 w1 (by omega) (by omega)).mono ?_
    rintro e w2 ⟨rfl, hm2⟩
    go_upto_region 7 with (fail)
    have hs2 := hm2.2.2
    have hF := fresh1 hb1 hm2
    generalize (w2.alloc (.cells #[.int .u64 0] 44)) = w3 at *
    have EQ : w2.heap.size = w1.heap.size + 2 := hs2
    simp only [EQ]
    clear hm2 hs2 EQ hb1
    generalize w1.heap.size = N at *
    obtain ⟨xs, hxs⟩ : ∃ xs, actsL n F = xs := ⟨_, rfl⟩
    have hxl : xs.length = n := by rw [← hxs, actsL_length]
    have hsz3 := hF.size
    have hle := hF.le
    have hLLge : ∀ b, b ∈ [N + 1, N, N + 2] → w.heap.size ≤ b := fun b hb => by simp at hb; omega
    have hLLlt : ∀ b, b ∈ [N + 1, N, N + 2] → b < w3.heap.size := fun b hb => by simp at hb; omega
    have hBl : Blocks w.heap.size (N + 1) N (N + 2) [N + 1, N, N + 2] := ⟨by simp, by simp, by simp⟩
    have hA3 := hr.in_ hF.be hLLge
    rw [hxs] at hA3
    have cc := codes_for (ns := 1) hBl 1000 xs A cp 0 w3 hA3 (by omega) (by omega) hLLlt (by omega)
    rw [hxl] at cc
    clear hA3
    go_wp2_with fail
    refine cc.mono ?_
    rintro e w4 ⟨v, rfl, hc4, hb4⟩
    have hcode := hc4.code
    go_wp2_with fail
    refine (newtask_any v hcode w4).mono ?_
    rintro e w5 ⟨rfl, rfl⟩
    have hs4 := hb4.size
    have hok : (AM w.heap.size (N + 1) N (N + 2) 1 [N + 1, N, N + 2]).Ok := am_ok (by simp) (by simp) (by simp)
    have tu5 : Turns [] w3 (w4.alloc (.cells #[v, .int .i64 0] 71)) := (Turns.of_below hb4 (Nat.le_refl _)).alloc _
    have hU : Und w.heap.size (N + 1) N (N + 2) 1 [N + 1, N, N + 2] 1000 0 xs zeroS 0 0 w4.heap.size w3 (w4.alloc (.cells #[v, .int .i64 0] 71)) :=
      ⟨TaskAt.made (M := AM w.heap.size (N + 1) N (N + 2) 1 [N + 1, N, N + 2]) hc4 (fun b hb => Nat.lt_of_lt_of_le (hLLlt b hb) hs4) (by show w.heap.size ≤ _; omega), hF.ai.turns tu5 (by simp) (by simp) (by simp), tu5.more (by simp), Moves.of_turns tu5 (by simp)⟩
    generalize (w4.alloc (.cells #[v, .int .i64 0] 71)) = w5 at *
    have hb3 := hF.be
    have ht : w.heap.size ≤ w4.heap.size := by omega
    generalize w4.heap.size = t at *
    clear hF hc4 hb4 tu5 hcode cc
    have hkk := fun i => actsTo_k zeroS 0 xs i
    have hk0 : ∀ i, 0 ≤ (actsTo zeroS 0 xs i).k := fun i => by
      induction i with
      | zero => exact Int.le_refl _
      | succ i ih =>
        cases hx : xs[i]? with
        | some a => rw [actsTo_succ hx]; have := (act1_k (actsTo zeroS 0 xs i) 0 a).1; omega
        | none =>
          have hl := List.getElem?_eq_none_iff.1 hx
          rw [actsTo_all (by omega), ← actsTo_all (i := i) hl]
          exact ih
    have hk1 : ∀ i, i < n → (actsTo zeroS 0 xs (i + 1)).k ≤ (actsTo zeroS 0 xs i).k + 1 := fun i hi => by
      rw [actsTo_succ (List.getElem?_eq_getElem (by omega))]
      exact (act1_k _ _ _).2
    go_wp2_with fail
    go_loopw [38] (fun u wr => ∃ i : Nat, i ≤ n ∧ u = .int .i64 i ∧ Und w.heap.size (N + 1) N (N + 2) 1 [N + 1, N, N + 2] (1000 - i) 0 xs zeroS i i t w3 wr) (fun u _ => n - (intOf u).toNat)
    case atStart => exact ⟨0, by omega, rfl, hU⟩
    case round =>
      obtain ⟨i, hin, rfl, hV⟩ := hrel
      clear hU
      by_cases hlt : i < n
      · rw [show 1000 - i = (1000 - (i + 1)) + 1 by omega] at hV
        have c1 := hV.count
        have c2 := hV.ended false (by simp; omega)
        have b1 := hkk i
        have b2 := hk0 i
        have b3 := hk0 (i + 1)
        have b4 := hk1 i hlt
        have e0 : zeroS.k = 0 := rfl
        rw [e0] at b1
        rcases Nat.lt_or_ge (i + 1) n with hl1 | hl1
        · have c3 := hV.next hok (by omega) false (by simp; omega) (i + 1) (by omega)
          have hne : ((i : Int) == (n : Int) - 1) = false := by simp; omega
          clear hV hkk hk0 hk1
          generalize (actsTo zeroS 0 xs i).k = k1 at *
          generalize hk2 : (actsTo zeroS 0 xs (i + 1)).k = k2 at *
          go_wp2_with fail
          refine c1.mono ?_
          rintro e w' ⟨rfl, rfl⟩
          go_wp2_with fail
          refine c2.mono ?_
          rintro e w' ⟨rfl, rfl⟩
          go_wp2_with fail
          refine c3.mono ?_
          rintro e w6 ⟨rfl, hV⟩
          have c4 := hV.count
          have c5 := hV.steps
          rw [hk2] at c4
          go_wp2_with fail
          refine c4.mono ?_
          rintro e w' ⟨rfl, rfl⟩
          go_wp2_with fail
          refine c5.mono ?_
          rintro e w' ⟨rfl, rfl⟩
          go_wp2
          go_roundw
          case rel => exact ⟨i + 1, by omega, by go_num, hV⟩
          case measure => simp [intOf]; omega
        · have c3 := hV.next hok (by omega) true (by simp; omega) (i + 1) (by omega)
          have hne : ((i : Int) == (n : Int) - 1) = true := by simp; omega
          clear hV hkk hk0 hk1
          generalize (actsTo zeroS 0 xs i).k = k1 at *
          generalize hk2 : (actsTo zeroS 0 xs (i + 1)).k = k2 at *
          go_wp2_with fail
          refine c1.mono ?_
          rintro e w' ⟨rfl, rfl⟩
          go_wp2_with fail
          refine c2.mono ?_
          rintro e w' ⟨rfl, rfl⟩
          go_wp2_with fail
          refine c3.mono ?_
          rintro e w6 ⟨rfl, hV⟩
          have c4 := hV.count
          have c5 := hV.steps
          rw [hk2] at c4
          go_wp2_with fail
          refine c4.mono ?_
          rintro e w' ⟨rfl, rfl⟩
          go_wp2_with fail
          refine c5.mono ?_
          rintro e w' ⟨rfl, rfl⟩
          go_wp2
          go_roundw
          case rel => exact ⟨i + 1, by omega, by go_num, hV⟩
          case measure => simp [intOf]; omega
      · obtain rfl : i = n := by omega
        have b1 := hkk i
        have b2 := hk0 i
        rw [show zeroS.k = 0 from rfl] at b1
        rw [show 1000 - i = (998 - i) + 1 + 1 by omega] at hV
        have c1 := hV.count
        have c2 := hV.ended true (by simp; omega)
        have c3 := hV.next hok (by omega) true (by simp; omega) i (by omega)
        clear hV hkk hk0 hk1 hlt
        obtain ⟨s9, hs9⟩ : ∃ s9, actsTo zeroS 0 xs i = s9 := ⟨_, rfl⟩
        have HS := Lib.hid hs9
        rw [hs9] at c1 b1 b2
        clear hs9
        generalize hkx : s9.k = kk at *
        have hkx := Lib.hid hkx
        go_wp2_with fail
        refine c1.mono ?_
        rintro e w' ⟨rfl, rfl⟩
        go_wp2_with fail
        refine c2.mono ?_
        rintro e w' ⟨rfl, rfl⟩
        go_wp2_with fail
        refine c3.mono ?_
        rintro e w6 ⟨rfl, hV⟩
        have c4 := (hV.at_ (i' := i) (by omega) (by omega)).finish hok 5 (by omega) (by omega) (.inr (by omega)) true (by simp; omega) i (by omega)
        clear hV c1 c2 c3
        go_wp2_with fail
        refine c4.mono ?_
        rintro e w7 ⟨rfl, hV⟩
        have hV := hV.at_ (i' := i) (by omega) (by omega)
        have c5 := hV.steps
        have c6 := hV.count
        rw [HS.out, hkx.out] at c6
        go_wp2_with fail
        refine c5.mono ?_
        rintro e w' ⟨rfl, rfl⟩
        go_wp2_with fail
        refine c6.mono ?_
        rintro e w' ⟨rfl, rfl⟩
        -- the second task
        have tu7 := hV.tu
        have ai7 := hV.ai
        rw [HS.out] at ai7
        have be7 : Below w.heap.size w w' := hb3.trans (tu7.below (fun b hb => by simp at hb; omega) (by omega))
        have hsz7 := tu7.size
        have hA7 := hr.in_ be7 hLLge
        rw [hxs] at hA7
        have cc := codes_for (ns := 1) hBl 1000 xs A cp 0 w' hA7 (by omega) (by omega) (fun b hb => by have := hLLlt b hb; omega) (by have := be7.size; omega)
        rw [hxl] at cc
        clear hA7 hV c4 c5 c6 tu7
        go_wp2_with fail
        refine cc.mono ?_
        rintro e w8 ⟨v2, rfl, hc8, hb8⟩
        have hcode := hc8.code
        go_wp2_with fail
        refine (newtask_any v2 hcode w8).mono ?_
        rintro e w9 ⟨rfl, rfl⟩
        have hs8 := hb8.size
        have tu9 : Turns [] w' (w8.alloc (.cells #[v2, .int .i64 0] 71)) := (Turns.of_below hb8 (Nat.le_refl _)).alloc _
        have be9 := be7.trans (tu9.below (B := w.heap.size) (by simp) be7.size)
        have hW : Und w.heap.size (N + 1) N (N + 2) 1 [N + 1, N, N + 2] 1000 0 xs s9 0 0 w8.heap.size (w8.alloc (.cells #[v2, .int .i64 0] 71)) (w8.alloc (.cells #[v2, .int .i64 0] 71)) :=
          ⟨TaskAt.made (M := AM w.heap.size (N + 1) N (N + 2) 1 [N + 1, N, N + 2]) hc8 (fun b hb => by have := hLLlt b hb; omega) (by show w.heap.size ≤ _; have := be7.size; omega), (ai7.turns tu9 (by simp) (by simp) (by simp)).again 1000 (by show s9.k + _ ≤ _; rw [hkx.out]; omega), Turns.refl _ _, Moves.refl _ _ _⟩
        have hs9 : (w8.alloc (.cells #[v2, .int .i64 0] 71)).heap.size = w8.heap.size + 1 := by simp
        generalize (w8.alloc (.cells #[v2, .int .i64 0] 71)) = w9 at *
        have ht2 : w.heap.size ≤ w8.heap.size := by have := be7.size; omega
        generalize w8.heap.size = t2 at *
        have fin : ∀ (b : Bool) (d' : Nat), decide (i ≤ most.toNat) = b → d' = min most.toNat i → Calls Try.prog 21 #[ptr t2, .int .i64 most] w9 fun e w' => e = .returned (.bool b) ∧ Und w.heap.size (N + 1) N (N + 2) 1 [N + 1, N, N + 2] 0 0 xs s9 (0 + most.toNat) d' t2 w9 w' := fun b d' h1 h2 =>
          hW.finish (m := 999) hok most hmost (by omega) (.inr (by omega)) b (by rw [← h1]; congr 1; apply propext; omega) d' (by omega)
        have hlast : ∀ (d' : Nat) (w10 : World), Und w.heap.size (N + 1) N (N + 2) 1 [N + 1, N, N + 2] 0 0 xs s9 (0 + most.toNat) d' t2 w9 w10 → Below w.heap.size w w10 := fun _ _ h => be9.trans (h.tu.below (fun b hb => by simp at hb; omega) be9.size)
        have hlast := Lib.hid hlast
        clear hW hc8 hb8 tu9 be7 ai7 cc hcode be9
        rcases (by omega : most < 0 ∨ (0 ≤ most ∧ most < i) ∨ (0 ≤ most ∧ (i : Int) ≤ most)) with hm0 | ⟨hm0, hm1⟩ | ⟨hm0, hm1⟩
        · rcases Nat.eq_zero_or_pos i with h0 | h0
          · skip
            have c1 := fin true 0 (by simp; omega) (by omega)
            clear fin
            go_wp2_with fail
            refine c1.mono ?_
            rintro e w10 ⟨rfl, hV⟩
            have c2 := hV.steps
            have hl := Lib.hid (hlast.out _ _ hV)
            clear hV c1
            go_wp2_with fail
            refine c2.mono ?_
            rintro e w' ⟨rfl, rfl⟩
            go_wp2
            all_goals go_ret
            all_goals exact ⟨ret_bool (by simp; try omega), hl.out⟩
          · skip
            have c1 := fin false 0 (by simp; omega) (by omega)
            clear fin
            go_wp2_with fail
            refine c1.mono ?_
            rintro e w10 ⟨rfl, hV⟩
            have c2 := hV.steps
            have hl := Lib.hid (hlast.out _ _ hV)
            clear hV c1
            go_wp2_with fail
            refine c2.mono ?_
            rintro e w' ⟨rfl, rfl⟩
            go_wp2
            all_goals go_ret
            all_goals exact ⟨ret_bool (by simp; try omega), hl.out⟩
        · obtain ⟨mm, rfl⟩ := Int.eq_ofNat_of_zero_le hm0
          have c1 := fin false mm (by simp; omega) (by omega)
          clear fin
          go_wp2_with fail
          refine c1.mono ?_
          rintro e w10 ⟨rfl, hV⟩
          have c2 := hV.steps
          have hl := Lib.hid (hlast.out _ _ hV)
          clear hV c1
          go_wp2_with fail
          refine c2.mono ?_
          rintro e w' ⟨rfl, rfl⟩
          go_wp2
          all_goals go_ret
          all_goals exact ⟨ret_bool (by simp; try omega), hl.out⟩
        · skip
          have c1 := fin true i (by simp; omega) (by omega)
          clear fin
          go_wp2_with fail
          refine c1.mono ?_
          rintro e w10 ⟨rfl, hV⟩
          have c2 := hV.steps
          have hl := Lib.hid (hlast.out _ _ hV)
          clear hV c1
          go_wp2_with fail
          refine c2.mono ?_
          rintro e w' ⟨rfl, rfl⟩
          go_wp2
          all_goals go_ret
          all_goals exact ⟨ret_bool (by simp; try omega), hl.out⟩
  · go_enter Try.func4, Try.ntmps4
    go_wp2_with fail
    refine (speaks7_any _).mono ?_
    rintro e w1 ⟨rfl, hb1⟩
    go_wp2_with fail
    refine (speaks7_any _).mono ?_
    rintro e w2 ⟨rfl, hb2⟩
    go_wp2
    go_ret
    exact ⟨rfl, hb1.trans (hb2.mono hb1.size)⟩

end Go.Proofs.Ytgnfgpengoafkaa
