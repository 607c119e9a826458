/- Events: words, one blank between two of them: the law. -/
import Derived.Test.YtiaknnhfbfoeiaaDoorE19
namespace Go.Proofs.YtiaknnhfbfoeiaaDoor
open Go.RowKit Go.ChangeShapes Go.WideShapes Go.PlainAid
set_option maxRecDepth 100000

theorem line_ok {x : Ev} (hx : x.Ok) (hr : rightR x = true) : (lineC x).length ≤ 2000 := by
  have h2 := hr
  rw [← right_eq] at h2
  obtain ⟨hne, _⟩ := right_fl h2
  have hin := Ev.fl_in hne
  unfold lineC
  rw [if_pos h2]
  obtain ⟨h3, h4, h5⟩ := words_ok hx (by omega : x.k.toNat < 6) (by omega : x.o.toNat < 8) x.fl
  cases hw : words x x.fl with
  | nil => simp [Lib.join_nil]
  | cons z r =>
    rw [hw] at h3 h4
    rw [Lib.join_cons, List.length_append]
    have h6 := tail_len r fun y hy => h3 y (List.mem_cons_of_mem _ hy)
    have h7 := h3 z (by simp)
    simp at h4
    omega

set_option maxHeartbeats 4000000 in
theorem words_a (x : Ev) (hx : x.Ok) (hr : rightR x = false) (w : World) (hT : TabE w) : Calls Tryd.prog 6 #[.agg x.c] w fun e w' => e = .returned (.bool true) ∧ Below w.heap.size w w' := by
  have cO := fun W => of_any x W
  have cL := fun W h => line_any x hx W h
  have cS := fun W => refright_any x W
  rw [hr] at cS
  have he : lineC x = [] := by
    unfold lineC
    rw [right_eq, hr]
    rfl
  rw [he] at cL
  obtain ⟨B0, hB0⟩ : ∃ B0, w.heap.size = B0 := ⟨_, rfl⟩
  obtain ⟨k, ww, o, hn, hg, nn, ng, t, a, u, y, er⟩ := x
  obtain ⟨W1, hW1⟩ : ∃ W1, w.alloc (.cells #[.int .i64 k, .int .i64 ww, .int .i64 o, .int .i64 hn, .int .i64 hg, .int .i64 nn, .int .i64 ng, .int .i64 t, .int .i64 a, .int .i64 u, .bool y, .int .i64 er] 25) = W1 := ⟨_, rfl⟩
  have l1 : Lies W1 B0 25 (Ev.c ⟨k, ww, o, hn, hg, nn, ng, t, a, u, y, er⟩) := by rw [← hW1, ← hB0]; exact Lies.new _ _ _
  have bW : Below w.heap.size w W1 := by rw [← hW1]; exact (Below.refl _ _).alloc (Nat.le_refl _) _
  show Calls Tryd.prog 6 #[.agg #[.int .i64 k, .int .i64 ww, .int .i64 o, .int .i64 hn, .int .i64 hg, .int .i64 nn, .int .i64 ng, .int .i64 t, .int .i64 a, .int .i64 u, .bool y, .int .i64 er]] w _
  go_enter Tryd.func6, Tryd.ntmps6
  go_upto_region 1 with (fail)
  try rw [hW1]
  try rw [hB0]
  clear hW1
  obtain ⟨f0, f1, f2, f3, f4, f5, f6, f7, f8, f9, fa, fbb⟩ := Ev.cells l1
  go_wp2_with fail
  clear f0 f1 f2 f3 f4 f5 f6 f7 f8 f9 fa fbb
  refine (show Calls Tryd.prog 9 #[.agg (Ev.c ⟨k, ww, o, hn, hg, nn, ng, t, a, u, y, er⟩)] _ _ from cO _).mono ?_
  rintro e wn ⟨rfl, bb⟩
  have l1 := l1.below bb l1.lt
  have bW := bW.trans (bb.mono bW.size)
  clear bb
  go_wp2_with fail
  refine (show Calls Tryd.prog 11 #[.agg (Ev.c ⟨k, ww, o, hn, hg, nn, ng, t, a, u, y, er⟩)] _ _ from cL _ (hT.keep bW)).mono ?_
  rintro e wn ⟨rfl, bb⟩
  have l1 := l1.below bb l1.lt
  have bW := bW.trans (bb.mono bW.size)
  clear bb
  go_wp2_with fail
  refine (speaks_any _ (hT.keep bW)).mono ?_
  rintro e wn ⟨rfl, bb⟩
  have l1 := l1.below bb l1.lt
  have bW := bW.trans (bb.mono bW.size)
  clear bb
  obtain ⟨f0, f1, f2, f3, f4, f5, f6, f7, f8, f9, fa, fbb⟩ := Ev.cells l1
  go_wp2_with fail
  clear f0 f1 f2 f3 f4 f5 f6 f7 f8 f9 fa fbb
  refine (show Calls Tryd.prog 10 #[.agg (Ev.c ⟨k, ww, o, hn, hg, nn, ng, t, a, u, y, er⟩)] _ _ from cS _).mono ?_
  rintro e wn ⟨rfl, bb⟩
  have l1 := l1.below bb l1.lt
  have bW := bW.trans (bb.mono bW.size)
  clear bb
  go_wp2_with fail
  refine (speaks_any _ (hT.keep bW)).mono ?_
  rintro e wn ⟨rfl, bb⟩
  have l1 := l1.below bb l1.lt
  have bW := bW.trans (bb.mono bW.size)
  clear bb
  go_wp2_with fail
  go_ret
  exact ⟨by rfl, bW⟩

set_option maxHeartbeats 4000000 in
theorem words_b (x : Ev) (hx : x.Ok) (hr : rightR x = true) (w : World) (hT : TabE w) : Calls Tryd.prog 6 #[.agg x.c] w fun e w' => e = .returned (.bool true) ∧ Below w.heap.size w w' := by
  have cO := fun W => of_any x W
  have cL := fun W h => line_any x hx W h
  have cS := fun W => refright_any x W
  rw [hr] at cS
  obtain ⟨h1, R, hR, hl⟩ := line_right (x := x) (by rw [right_eq]; exact hr)
  have hkd : 0 < x.k ∧ x.k < 6 := by
    have h2 := hr
    rw [← right_eq] at h2
    obtain ⟨hne, _⟩ := right_fl h2
    have h3 := hr
    unfold rightR at h3
    simp only [Bool.and_eq_true] at h3
    have h4 := kindB_in h3.1.1.1.1
    omega
  have hb := spaced_bt h1
  have hln := (line_ok hx hr)
  obtain ⟨L, hL⟩ : ∃ L, lineC x = L := ⟨_, rfl⟩
  rw [hL] at hb hl cL hln
  have hsz : (⟨L.toArray⟩ : ByteArray).size = L.length := by show L.toArray.size = _; simp
  have hpre : ((⟨L.toArray⟩ : ByteArray).extract 0 ((kN.getD x.k.toNat []).length + 1)).toList = kN.getD x.k.toNat [] ++ [32] ∧ (kN.getD x.k.toNat []).length + 1 < L.length := by
    have hRl : 0 < R.length := List.length_pos_iff.2 hR
    refine ⟨?_, by rw [hl]; simp; omega⟩
    have h5 := pre_of (kN.getD x.k.toNat [] ++ [32]) R
    rw [hl, show kN.getD x.k.toNat [] ++ 32 :: R = (kN.getD x.k.toNat [] ++ [32]) ++ R by simp]
    simpa using h5
  unfold tx at cL
  have hgb := get_bt (⟨L.toArray⟩ : ByteArray)
  clear hl hR hL h1
  generalize (⟨L.toArray⟩ : ByteArray) = S at *
  rw [← hsz] at hb hpre hln
  clear hsz
  obtain ⟨B0, hB0⟩ : ∃ B0, w.heap.size = B0 := ⟨_, rfl⟩
  obtain ⟨k, ww, o, hn, hg, nn, ng, t, a, u, y, er⟩ := x
  obtain ⟨W1, hW1⟩ : ∃ W1, w.alloc (.cells #[.int .i64 k, .int .i64 ww, .int .i64 o, .int .i64 hn, .int .i64 hg, .int .i64 nn, .int .i64 ng, .int .i64 t, .int .i64 a, .int .i64 u, .bool y, .int .i64 er] 25) = W1 := ⟨_, rfl⟩
  have l1 : Lies W1 B0 25 (Ev.c ⟨k, ww, o, hn, hg, nn, ng, t, a, u, y, er⟩) := by rw [← hW1, ← hB0]; exact Lies.new _ _ _
  have bW : Below w.heap.size w W1 := by rw [← hW1]; exact (Below.refl _ _).alloc (Nat.le_refl _) _
  show Calls Tryd.prog 6 #[.agg #[.int .i64 k, .int .i64 ww, .int .i64 o, .int .i64 hn, .int .i64 hg, .int .i64 nn, .int .i64 ng, .int .i64 t, .int .i64 a, .int .i64 u, .bool y, .int .i64 er]] w _
  go_enter Tryd.func6, Tryd.ntmps6
  go_upto_region 1 with (fail)
  try rw [hW1]
  try rw [hB0]
  clear hW1
  obtain ⟨f0, f1, f2, f3, f4, f5, f6, f7, f8, f9, fa, fbb⟩ := Ev.cells l1
  go_wp2_with fail
  clear f0 f1 f2 f3 f4 f5 f6 f7 f8 f9 fa fbb
  refine (show Calls Tryd.prog 9 #[.agg (Ev.c ⟨k, ww, o, hn, hg, nn, ng, t, a, u, y, er⟩)] _ _ from cO _).mono ?_
  rintro e wn ⟨rfl, bb⟩
  have l1 := l1.below bb l1.lt
  have bW := bW.trans (bb.mono bW.size)
  clear bb
  go_wp2_with fail
  refine (show Calls Tryd.prog 11 #[.agg (Ev.c ⟨k, ww, o, hn, hg, nn, ng, t, a, u, y, er⟩)] _ _ from cL _ (hT.keep bW)).mono ?_
  rintro e wn ⟨rfl, bb⟩
  have l1 := l1.below bb l1.lt
  have bW := bW.trans (bb.mono bW.size)
  clear bb
  go_wp2_with fail
  refine (speaks_any _ (hT.keep bW)).mono ?_
  rintro e wn ⟨rfl, bb⟩
  have l1 := l1.below bb l1.lt
  have bW := bW.trans (bb.mono bW.size)
  clear bb
  obtain ⟨f0, f1, f2, f3, f4, f5, f6, f7, f8, f9, fa, fbb⟩ := Ev.cells l1
  go_wp2_with fail
  clear f0 f1 f2 f3 f4 f5 f6 f7 f8 f9 fa fbb
  refine (show Calls Tryd.prog 10 #[.agg (Ev.c ⟨k, ww, o, hn, hg, nn, ng, t, a, u, y, er⟩)] _ _ from cS _).mono ?_
  rintro e wn ⟨rfl, bb⟩
  have l1 := l1.below bb l1.lt
  have bW := bW.trans (bb.mono bW.size)
  clear bb
  go_wp2_with fail
  go_loopw [4, 23] (fun _ i W => ∃ q : Nat, i = .int .i64 (q : Int) ∧ q ≤ S.size ∧ W = wn) (fun _ i _ => S.size - (intOf i).toNat)
  case atStart => exact ⟨0, rfl, Nat.zero_le _, rfl⟩
  case round =>
    obtain ⟨q, rfl, hq, rfl⟩ := hrel
    by_cases hqn : q < S.size
    · have hq' : (q : Int) < S.size := by omega
      obtain ⟨b1, b2⟩ := hb q hqn
      have e10 : (bt S q == 10) = false := by simpa using b1
      by_cases e32 : bt S q = 32
      · obtain ⟨c1, c2, c3⟩ := b2 e32
        have hq1 : ((q + 1 : Nat) : Int) < S.size := by omega
        have hq2 : (q : Int) + 1 < S.size := by omega
        have d0 : ((q : Int) == 0) = false := by simpa using c1
        have d1 : ((q : Int) == (S.size : Int) - 1) = false := by
          rw [beq_eq_false_iff_ne]
          omega
        have d2 : (bt S (q + 1) == 32) = false := by simpa using c3
        have e32 : (bt S q == 32) = true := by simpa using e32
        clear b1 b2 hb c1 c3 hpre
        go_wp2
        go_roundw
        case rel => exact ⟨q + 1, by go_num, by omega, by trivial⟩
        case measure => simp [intOf]; omega
      · have e32 : (bt S q == 32) = false := by simpa using e32
        clear b1 b2 hb hpre
        go_wp2
        go_roundw
        case rel => exact ⟨q + 1, by go_num, by omega, by trivial⟩
        case measure => simp [intOf]; omega
    · obtain rfl : q = S.size := by omega
      obtain ⟨kk, rfl⟩ := Int.eq_ofNat_of_zero_le (show 0 ≤ k by have := hkd.1; have : 0 < k := this; omega)
      have hk5 : kk = 1 ∨ kk = 2 ∨ kk = 3 ∨ kk = 4 ∨ kk = 5 := by
        have h1 : 0 < ((kk : Nat) : Int) := hkd.1
        have h2 : ((kk : Nat) : Int) < 6 := hkd.2
        omega
      obtain ⟨p1, p2⟩ := hpre
      have l9 := l1
      rcases hk5 with rfl | rfl | rfl | rfl | rfl
      all_goals
        simp [kN] at p1 p2
        obtain ⟨f0, f1, f2, f3, f4, f5, f6, f7, f8, f9, fa, fbb⟩ := Ev.cells l1
        clear f1 f2 f3 f4 f5 f6 f7 f8 f9 fa fbb
        dsimp only at f0
        have hlt := l1.lt
        have hne := Nat.ne_of_lt hlt
        clear hb hkd
        go_wp2_with fail
        go_ret
        exact ⟨rfl, bW.alloc bW.size _⟩

theorem words_law (x : Ev) (hx : x.Ok) (w : World) (hT : TabE w) : Calls Tryd.prog 6 #[.agg x.c] w fun e w' => e = .returned (.bool true) ∧ Below w.heap.size w w' := by
  cases hr : rightR x with
  | false => exact words_a x hx hr w hT
  | true => exact words_b x hx hr w hT

end Go.Proofs.YtiaknnhfbfoeiaaDoor
