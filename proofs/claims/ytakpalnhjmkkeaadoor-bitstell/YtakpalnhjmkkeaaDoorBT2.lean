/- The document's sets: their words, what is turned, cut, listed, sought. -/
import Derived.Test.YtakpalnhjmkkeaaDoorBT1
namespace Go.Proofs.YtakpalnhjmkkeaaDoor
open Go.RowKit

theorem half_step (s q : Nat) : s / 2 ^ q = 2 * (s / 2 ^ (q + 1)) + (if s.testBit q = true then 1 else 0) := by
  have h1 : s / 2 ^ (q + 1) = s / 2 ^ q / 2 := by rw [Nat.pow_succ, ← Nat.div_div_eq_div_mul]
  have h2 := half_bit s q
  rw [h1]
  rcases Nat.mod_two_eq_zero_or_one (s / 2 ^ q) with h | h
  · rw [h] at h2
    have h2 : s.testBit q = false := by rw [← h2]; rfl
    rw [h2]
    simp
    omega
  · rw [h] at h2
    have h2 : s.testBit q = true := by rw [← h2]; rfl
    rw [h2]
    simp
    omega

set_option maxHeartbeats 2000000 in
theorem rword_any (s : Nat) (hs : s < 18446744073709551616) (w : World) :
    Calls Tryd.prog 9 #[.agg (vec 64 (bv s))] w fun e w' => e = .returned (.int .u64 s) ∧ Below w.heap.size w w' := by
  have h64 : s / 2 ^ 64 = 0 := Nat.div_eq_of_lt (by rw [m64]; exact hs)
  go_enter Tryd.func9, Tryd.ntmps9
  go_upto_region 1 with (first
    | ((with_reducible refine wpList_vbox (f := bv s) arr6 rfl (.tmp 0) rfl ?_ ?_)
       · rfl
       intro w1 n1)
    | fail)
  have hl := n1.lies
  have hb : Turns [] w w1 := Turns.of_below n1.below (Nat.le_refl _)
  clear n1
  generalize w.heap.size = g at *
  go_wp2_with fail
  go_loopw [3, 4] (fun x i W => ∃ m : Nat, m ≤ 64 ∧ x = .int .u64 ((s / 2 ^ m : Nat) : Int) ∧ i = .int .i64 ((m : Int) - 1) ∧ W = w1) (fun _ i _ => (intOf i + 1).toNat)
  case atStart => exact ⟨64, by omega, by rw [h64]; rfl, rfl, rfl⟩
  case round =>
    obtain ⟨m, hm, rfl, rfl, rfl⟩ := hrel
    by_cases hlt : 0 < m
    · obtain ⟨q, rfl⟩ : ∃ q, m = q + 1 := ⟨m - 1, by omega⟩
      have e1 : wr.cell? ⟨g, q, none⟩ = some (.bool (s.testBit q)) := (hl.cell q).trans (vec_at (by omega))
      have hst := half_step s q
      have hle : s / 2 ^ q ≤ s := Nat.div_le_self _ _
      rw [show (((q + 1 : Nat) : Int) - 1) = (q : Int) by omega]
      obtain ⟨X, hX⟩ : ∃ X, s / 2 ^ (q + 1) = X := ⟨_, rfl⟩
      obtain ⟨Y, hY⟩ : ∃ Y, s / 2 ^ q = Y := ⟨_, rfl⟩
      rw [hX, hY] at hst
      rw [hX]
      rw [hY] at hle
      have HY := Lib.hid hY
      clear hX hY h64 hl
      cases hb : s.testBit q with
      | true =>
        rw [hb] at e1 hst
        simp only [if_true] at hst
        have HS := Lib.hid (show ((Y : Int)) = (X : Int) * 2 + 1 by omega)
        clear hst hb
        go_wp2
        go_roundw
        case rel => exact ⟨q, by omega, by rw [HY.out]; have := HS.out; simp only [IntKind.wrap_u64]; congr 1; omega, by go_num, by first | rfl | trivial⟩
        case measure => simp [intOf]
      | false =>
        rw [hb] at e1 hst
        have HS := Lib.hid (show ((Y : Int)) = (X : Int) * 2 by simp at hst; omega)
        clear hst hb
        go_wp2
        go_roundw
        case rel => exact ⟨q, by omega, by rw [HY.out]; have := HS.out; simp only [IntKind.wrap_u64]; congr 1; omega, by go_num, by first | rfl | trivial⟩
        case measure => simp [intOf]
    · obtain rfl : m = 0 := by omega
      have e0 : s / 2 ^ 0 = s := by simp
      rw [e0]
      go_wp2
      go_ret
      exact ⟨rfl, hb.below (by simp) (Nat.le_refl _)⟩

theorem rslot_any (i : Int) (w : World) :
    Calls Tryd.prog 7 #[.int .i64 i] w fun e w' => e = .returned (.bool (decide (0 ≤ i ∧ i < 64))) ∧ w' = w := by
  rcases (by omega : i < 0 ∨ 0 ≤ i ∧ i < 64 ∨ 0 ≤ i ∧ 64 ≤ i) with h | ⟨h, h1⟩ | ⟨h, h1⟩
  · have e : decide (0 ≤ i ∧ i < 64) = false := by simp; omega
    rw [e]
    go_enter Tryd.func7, Tryd.ntmps7
    go_wp2
    go_ret
    exact ⟨ret_bool (by simp), rfl⟩
  · have e : decide (0 ≤ i ∧ i < 64) = true := by simp; omega
    rw [e]
    go_enter Tryd.func7, Tryd.ntmps7
    go_wp2
    go_ret
    exact ⟨ret_bool (by simp), rfl⟩
  · have e : decide (0 ≤ i ∧ i < 64) = false := by simp; omega
    rw [e]
    go_enter Tryd.func7, Tryd.ntmps7
    go_wp2
    go_ret
    exact ⟨ret_bool (by simp; omega), rfl⟩

/-- behind a turning. -/
def tw (s : Nat) (i : Int) (b : Bool) : Nat := if b = true then wi s i else wo s i
theorem tw_in {s : Nat} (hs : s < 18446744073709551616) (q : Nat) (hq : q < 64) (b : Bool) : vec 64 (upv (bv s) q (.bool b)) = vec 64 (bv (tw s q b)) := vec_ext fun j hj => by
  unfold upv bv tw
  by_cases h : j = q
  · subst h
    cases b
    · simp [wo_bit hs]
    · simp [wi_bit, hj]
  · have h1 : ¬ (q : Int) = (j : Int) := by omega
    rw [if_neg h]
    cases b
    · simp [wo_bit hs, h1]
    · simp [wi_bit, h1]
theorem tw_out {s : Nat} (hs : s < 18446744073709551616) {i : Int} (h : ¬ (0 ≤ i ∧ i < 64)) (b : Bool) : vec 64 (bv s) = vec 64 (bv (tw s i b)) := vec_ext fun j hj => by
  have h1 : ¬ i = (j : Int) := by omega
  unfold bv tw
  cases b
  · simp [wo_bit hs, h1]
  · simp [wi_bit, h1]

theorem two_made {w w1 w2 : World} {f : Nat → Value} (n1 : New1 w w1 26 (vec 64 f)) (n2 : New1 w1 w2 26 (vec 64 fun _ => .bool false)) : Two w w.heap.size w1.heap.size f w2 := by
  have h1 := n1.size
  have h2 := n2.size
  exact ⟨n1.lies.below n2.below (by omega), n2.lies, n1.below.trans (n2.below.mono (by omega)), by omega, by omega, by omega⟩

set_option maxHeartbeats 2000000 in
theorem rturn_any (s : Nat) (hs : s < 18446744073709551616) (i : Int) (b : Bool) (w : World) :
    Calls Tryd.prog 10 #[.agg (vec 64 (bv s)), .int .i64 i, .bool b] w fun e w' => e = .returned (.agg (vec 64 (bv (tw s i b)))) ∧ Below w.heap.size w w' := by
  go_enter Tryd.func10, Tryd.ntmps10
  go_upto_region 1 with (first
    | ((with_reducible refine wpList_vbox (f := bv s) arr6 rfl (.tmp 0) rfl ?_ ?_)
       · rfl
       intro w1 n1)
    | ((with_reducible refine wpList_valloc arr6 rfl rfl ?_); intro w2 n2)
    | fail)
  have hat := two_made n1 n2
  clear n1 n2
  generalize w.heap.size = g at *
  generalize w1.heap.size = r at *
  by_cases hi : 0 ≤ i ∧ i < 64
  · have hd : decide (0 ≤ i ∧ i < 64) = true := decide_eq_true hi
    obtain ⟨q, rfl⟩ := Int.eq_ofNat_of_zero_le hi.1
    have hq : q < 64 := by omega
    have c1 := fun v => rslot_any (q : Int) v
    rw [hd] at c1
    have e1 : w2.cell? ⟨g, q, none⟩ = some (bv s q) := (hat.arr.cell q).trans (vec_at hq)
    unfold bv at e1
    have f1 := hat.arr.frozen q
    go_wp2_with fail
    refine (c1 _).mono ?_
    rintro e w3 ⟨rfl, rfl⟩
    go_upto_region 3 with (fail)
    have hat3 := hat.set q (.bool b)
    obtain ⟨o1, o2, o3⟩ := hat3.own
    have ha := hat3.arr
    have hr := hat3.res
    have hk := hat3.be
    rw [tw_in hs q hq b] at ha
    clear hat hat3 e1 f1
    generalize w3.setCell ⟨g, q, none⟩ (.bool b) = w4 at *
    go_wp2_with (first
      | ((with_reducible refine wpList_vload (b := g) (f := bv (tw s q b)) arr6 rfl (.tmp 3) rfl ?_ ha ?_)
         · rfl)
      | ((with_reducible refine wpList_vstore (b := r) (f := bv (tw s q b)) arr6 rfl (.tmp 6) (.tmp 12) rfl ?_ ?_ hr vec_size (bv_one _) ?_)
         · rfl
         · rfl
         intro w8 n8)
      | fail)
    try simp only [Exit.inBlock, Exit.then]
    refine bodyPost_ret (results_vec arr6 rfl _ _ r 26 (bv (tw s q b)) rfl n8.lies) rfl ?_
    exact ⟨rfl, hk.trans (n8.turns.below (by simp; exact o2) hk.size)⟩
  · have hd : decide (0 ≤ i ∧ i < 64) = false := decide_eq_false hi
    have c1 := fun v => rslot_any i v
    rw [hd] at c1
    obtain ⟨o1, o2, o3⟩ := hat.own
    have ha := hat.arr
    have hr := hat.res
    have hk := hat.be
    rw [tw_out hs hi b] at ha
    clear hat
    go_wp2_with (first
      | ((with_reducible refine wpList_vload (b := g) (f := bv (tw s i b)) arr6 rfl (.tmp 3) rfl ?_ ha ?_)
         · rfl)
      | ((with_reducible refine wpList_vstore (b := r) (f := bv (tw s i b)) arr6 rfl (.tmp 6) (.tmp 12) rfl ?_ ?_ hr vec_size (bv_one _) ?_)
         · rfl
         · rfl
         intro w8 n8)
      | (go_at_call 7; refine (c1 _).mono ?_; rintro e w3 ⟨rfl, rfl⟩)
      | fail)
    try simp only [Exit.inBlock, Exit.then]
    refine bodyPost_ret (results_vec arr6 rfl _ _ r 26 (bv (tw s i b)) rfl n8.lies) rfl ?_
    exact ⟨rfl, hk.trans (n8.turns.below (by simp; exact o2) hk.size)⟩

theorem bw_at {s : Nat} (hs : s < 18446744073709551616) (f t : Int) (m : Nat) (b : Bool) (hb : b = (s.testBit m && decide (f ≤ m) && decide ((m : Int) ≤ t))) : upv (bvUp (bw s f t) s m) m (.bool b) = bvUp (bw s f t) s (m + 1) := by
  rw [hb, ← bw_bit hs, bvUp_more]

set_option maxHeartbeats 4000000 in
theorem rbetween_any (s : Nat) (hs : s < 18446744073709551616) (f t : Int) (w : World) :
    Calls Tryd.prog 15 #[.agg (vec 64 (bv s)), .int .i64 f, .int .i64 t] w fun e w' => e = .returned (.agg (vec 64 (bv (bw s f t)))) ∧ Below w.heap.size w w' := by
  go_enter Tryd.func15, Tryd.ntmps15
  go_upto_region 1 with (first
    | ((with_reducible refine wpList_vbox (f := bv s) arr6 rfl (.tmp 0) rfl ?_ ?_)
       · rfl
       intro w1 n1)
    | ((with_reducible refine wpList_valloc arr6 rfl rfl ?_); intro w2 n2)
    | fail)
  have hat := two_made n1 n2
  clear n1 n2
  generalize w.heap.size = g at *
  generalize w1.heap.size = r at *
  rw [← bvUp_zero (bw s f t) s] at hat
  go_wp2_with fail
  go_loopw [7] (fun i W => ∃ m : Nat, m ≤ 64 ∧ i = .int .i64 m ∧ Two w g r (bvUp (bw s f t) s m) W) (fun i _ => 64 - (intOf i).toNat)
  case atStart => exact ⟨0, by omega, rfl, hat⟩
  case round =>
    clear hat
    obtain ⟨m, hm, rfl, hat⟩ := hrel
    by_cases hlt : m < 64
    · have e1 : wr.cell? ⟨g, m, none⟩ = some (.bool (s.testBit m)) := (hat.arr.cell m).trans ((vec_at hlt).trans (by simp [bvUp]))
      have f1 := hat.arr.frozen m
      have HN := Lib.hid (fun b hb => bw_at hs f t m b hb ▸ hat.set m (.bool b))
      clear hat
      rcases (by cases s.testBit m <;> simp : s.testBit m = false ∨ s.testBit m = true) with hb | hb
      · have HF := Lib.hid (HN.out false (by simp [hb]))
        rw [hb] at e1
        clear HN hb
        go_wp2
        go_roundw
        case rel => exact ⟨m + 1, by omega, by go_num, by first | exact HF.out | exact HF.out.drew⟩
        case measure => simp [intOf]; omega
      · rw [hb] at e1
        rcases (by omega : (m : Int) < f ∨ f ≤ m ∧ (m : Int) ≤ t ∨ f ≤ m ∧ t < m) with h1 | ⟨h1, h2⟩ | ⟨h1, h2⟩
        · have HF := Lib.hid (HN.out false (by rw [hb]; simp; omega))
          have g1 : decide (f ≤ (m : Int)) = false := decide_eq_false (by omega)
          clear HN hb
          go_wp2
          go_roundw
          case rel => exact ⟨m + 1, by omega, by go_num, by first | exact HF.out | exact HF.out.drew⟩
          case measure => simp [intOf]; omega
        · have HF := Lib.hid (HN.out true (by rw [hb]; simp; omega))
          clear HN hb
          go_wp2
          go_roundw
          case rel => exact ⟨m + 1, by omega, by go_num, by first | exact HF.out | exact HF.out.drew⟩
          case measure => simp [intOf]; omega
        · have HF := Lib.hid (HN.out false (by rw [hb]; simp; omega))
          have g1 : decide ((m : Int) ≤ t) = false := decide_eq_false (by omega)
          clear HN hb
          go_wp2
          go_roundw
          case rel => exact ⟨m + 1, by omega, by go_num, by first | exact HF.out | exact HF.out.drew⟩
          case measure => simp [intOf]; omega
    · have e : m = 64 := by omega
      subst e
      obtain ⟨o1, o2, o3⟩ := hat.own
      have ha := hat.arr
      have hr := hat.res
      have hk := hat.be
      rw [bvUp_all] at ha
      clear hat
      go_wp2_with (first
        | ((with_reducible refine wpList_vload (b := g) (f := bv (bw s f t)) arr6 rfl (.tmp 3) rfl ?_ ha ?_)
           · rfl)
        | ((with_reducible refine wpList_vstore (b := r) (f := bv (bw s f t)) arr6 rfl (.tmp 6) (.tmp 27) rfl ?_ ?_ hr vec_size (bv_one _) ?_)
           · rfl
           · rfl
           intro w8 n8)
        | fail)
      try simp only [Exit.inBlock, Exit.then]
      refine bodyPost_ret (results_vec arr6 rfl _ _ r 26 (bv (bw s f t)) rfl n8.lies) rfl ?_
      exact ⟨rfl, hk.trans (n8.turns.below (by simp; exact o2) hk.size)⟩

/-- one number more; a block of another type stays. -/
theorem wpList_outL {w W : World} {v : Value} {xs : List Int} {n : Int} {ops : Array Oper} {rest : List Oper} {o : Oper} {a : Act} {Q : Exit → Act → World → Prop} {G : Nat} {cs : Array Value} (h : Out w v xs W) (hl : Lies W G 26 cs) (hn : (Lit.int .i64 n).wf = true) (hl1 : xs.length ≤ 10000)
    (hgd : Region.wanted o (yielded ops a.tmps) = true) (s x : Operand) (ho : o.op = .call { callee := .builtin .append, args := #[s, x], argTypes := #[32, 32] })
    (hs : a.eval s = v) (hx : a.eval x = .slice (some ⟨W.heap.size, 0, none⟩) 1 1)
    (hK : ∀ v' w', Out w v' (xs ++ [n]) w' → Lies w' G 26 cs → wpList Tryd.prog ops Q rest (a.put o.dst v') w') : wpList Tryd.prog ops Q (o :: rest) a (W.alloc (.cells #[.int .i64 n] 3)) := by
  have hL := IRow.lit W (B := w.heap.size) [n] #[.int .i64 n] rfl h.be.size (Ints.one hn) (by simp)
  obtain ⟨A, cp, e, hr⟩ := hL.row
  injection e with e1 _ _
  subst e1
  refine wpList_irow_g (h.row.alloc _) (by have := h.be.size; simp; omega) hgd s x ho hs hx hr (by simp) (by simp; omega) ?_
  intro v' w' k1 k2 k3
  refine hK v' w' ⟨k1, (h.be.alloc h.be.size _).trans k2⟩ ?_
  have hl2 := hl.alloc (.cells #[.int .i64 n] 3)
  refine (k3.block G hl2.lt (fun e => ?_)).trans hl2
  have hr2 := h.row
  rcases hr2.own.2 with ⟨rfl, _⟩ | ⟨g', cap, cur, rfl, _, h3, _⟩
  · cases e
  · simp [Value.ownBlock] at e
    subst e
    exact hl.unlike (t' := 3) h3 (by decide) rfl

/-- slots below k, as ints. -/
def bl (s k : Nat) : List Int := (below s k).map fun x : Nat => (x : Int)
theorem bl_len (s k : Nat) : (bl s k).length ≤ k := by unfold bl; rw [List.length_map]; exact below_le s k

set_option maxHeartbeats 2000000 in
theorem rlist_any (s : Nat) (w : World) :
    Calls Tryd.prog 19 #[.agg (vec 64 (bv s))] w fun e W' => ∃ v, e = .returned v ∧ IRow W' w.heap.size v ((slots s).map fun x : Nat => (x : Int)) ∧ Below w.heap.size w W' := by
  go_enter Tryd.func19, Tryd.ntmps19
  go_upto_region 1 with (first
    | ((with_reducible refine wpList_vbox (f := bv s) arr6 rfl (.tmp 0) rfl ?_ ?_)
       · rfl
       intro w1 n1)
    | fail)
  go_upto_region 2 with (fail)
  have hl := n1.lies.alloc (.cells #[] 3)
  have hb : Below w.heap.size w (w1.alloc (.cells #[] 3)) := n1.below.alloc (by have := n1.size; omega) _
  have hO : Out w (.slice (some ⟨w1.heap.size, 0, none⟩) 0 0) [] (w1.alloc (.cells #[] 3)) := ⟨IRow.lit w1 (B := w.heap.size) [] #[] rfl (by have := n1.size; omega) Ints.nil (by simp), hb⟩
  clear n1 hb
  generalize w1.alloc (.cells #[] 3) = w2 at *
  obtain ⟨G, hG⟩ : ∃ G, w.heap.size = G := ⟨_, rfl⟩
  rw [hG] at hl
  simp only [hG]
  have HG := Lib.hid hG
  clear hG
  have hO : Out w (.slice (some ⟨w1.heap.size, 0, none⟩) 0 0) (bl s 0) w2 := hO
  generalize Value.slice (some ⟨w1.heap.size, 0, none⟩) 0 0 = v0 at *
  go_wp2_with fail
  go_loopw [3, 4] (fun v i W => ∃ m : Nat, m ≤ 64 ∧ i = .int .i64 m ∧ Out w v (bl s m) W ∧ Lies W G 26 (vec 64 (bv s))) (fun _ i _ => 64 - (intOf i).toNat)
  case atStart => exact ⟨0, by omega, rfl, hO, hl⟩
  case round =>
    clear hO hl
    obtain ⟨m, hm, rfl, hO, hl⟩ := hrel
    by_cases hlt : m < 64
    · have e1 : wr.cell? ⟨G, m, none⟩ = some (.bool (s.testBit m)) := (hl.cell m).trans (vec_at hlt)
      have hsu := below_succ s m
      have hbl := bl_len s m
      cases hb : s.testBit m with
      | true =>
        have HS : Hid (bl s (m + 1) = bl s m ++ [(m : Int)]) := Lib.hid (by unfold bl; rw [hsu, if_pos hb]; simp)
        rw [hb] at e1
        have hwf : (Lit.int .i64 (m : Int)).wf = true := WalkArith.wf_i64 (by omega)
        clear hsu hb
        have hlx := fun W (h : Below wr.heap.size wr W) => hl.below h hl.lt
        go_wp2_with (first | (at_builtin; refine wpList_outL hO hl hwf (by omega) (by rfl) (.tmp 13) (.tmp 15) rfl rfl rfl ?_; intro v1 w3 hO1 hl1) | fail)
        go_roundw
        case rel => exact ⟨m + 1, by omega, by go_num, by rw [HS.out]; exact hO1, hl1⟩
        case measure => simp [intOf]; omega
      | false =>
        have HS : Hid (bl s (m + 1) = bl s m) := Lib.hid (by unfold bl; rw [hsu, if_neg (by rw [hb]; simp)])
        rw [hb] at e1
        clear hsu hb
        go_wp2
        go_roundw
        case rel => exact ⟨m + 1, by omega, by go_num, by rw [HS.out]; exact hO, hl⟩
        case measure => simp [intOf]; omega
    · obtain rfl : m = 64 := by omega
      have h1 := hO.row
      have h2 := hO.be
      clear hO
      go_wp2
      go_ret
      exact ⟨_, rfl, h1, h2⟩

set_option maxHeartbeats 2000000 in
theorem rnext_any (s : Nat) (hs : s < 18446744073709551616) (f : Int) (w : World) :
    Calls Tryd.prog 17 #[.agg (vec 64 (bv s)), .int .i64 f] w fun e w' => e = .returned (.int .i64 (nx s f)) ∧ Below w.heap.size w w' := by
  have hsp := nx_spec hs f
  go_enter Tryd.func17, Tryd.ntmps17
  go_upto_region 1 with (first
    | ((with_reducible refine wpList_vbox (f := bv s) arr6 rfl (.tmp 0) rfl ?_ ?_)
       · rfl
       intro w1 n1)
    | fail)
  have hl := n1.lies
  have hb : Turns [] w w1 := Turns.of_below n1.below (Nat.le_refl _)
  clear n1
  generalize w.heap.size = g at *
  go_wp2_with fail
  go_loopw [5] (fun i W => ∃ m : Nat, m ≤ 64 ∧ i = .int .i64 m ∧ (∀ j, j < m → f ≤ (j : Int) → s.testBit j = false) ∧ W = w1) (fun i _ => 64 - (intOf i).toNat)
  case atStart => exact ⟨0, by omega, rfl, fun j hj => by omega, rfl⟩
  case round =>
    obtain ⟨m, hm, rfl, hno, rfl⟩ := hrel
    by_cases hlt : m < 64
    · have e1 : wr.cell? ⟨g, m, none⟩ = some (.bool (s.testBit m)) := (hl.cell m).trans (vec_at hlt)
      have more : Hid ((f ≤ (m : Int) → s.testBit m = false) → ∀ j, j < m + 1 → f ≤ (j : Int) → s.testBit j = false) := Lib.hid (fun h j hj hf => by
        rcases Nat.lt_or_ge j m with h1 | h1
        · exact hno j h1 hf
        · obtain rfl : j = m := by omega
          exact h hf)
      have HNO := Lib.hid hno
      have HSP := Lib.hid hsp
      clear hno hsp hl
      rcases (by cases s.testBit m <;> simp : s.testBit m = false ∨ s.testBit m = true) with hb2 | hb2
      · have HF := Lib.hid (more.out (fun _ => hb2))
        rw [hb2] at e1
        clear more hb2
        go_wp2
        go_roundw
        case rel => exact ⟨m + 1, by omega, by go_num, HF.out, by first | rfl | trivial⟩
        case measure => simp [intOf]; omega
      · rw [hb2] at e1
        by_cases hf : f ≤ (m : Int)
        · have HE : Hid (nx s f = m) := Lib.hid (by
            rcases HSP.out with ⟨_, h2⟩ | ⟨j, h1, h2, h3, h4, h5⟩
            · have := h2 m hf; rw [hb2] at this; cases this
            · rcases Nat.lt_trichotomy j m with h6 | h6 | h6
              · have := HNO.out j h6 h3; rw [h4] at this; cases this
              · rw [h1, h6]
              · have := h5 m h6 hf; rw [hb2] at this; cases this)
          clear more hb2
          go_wp2
          go_ret
          exact ⟨ret_int HE.out.symm, hb.below (by simp) (Nat.le_refl _)⟩
        · have HF := Lib.hid (more.out (fun h => absurd h hf))
          have g1 : decide (f ≤ (m : Int)) = false := decide_eq_false hf
          clear more hb2
          go_wp2
          go_roundw
          case rel => exact ⟨m + 1, by omega, by go_num, HF.out, by first | rfl | trivial⟩
          case measure => simp [intOf]; omega
    · have HE : Hid (nx s f = -1) := Lib.hid (by
        rcases hsp with ⟨h1, _⟩ | ⟨j, h1, h2, h3, h4, _⟩
        · exact h1
        · have := hno j (by omega) h3; rw [h4] at this; cases this)
      clear hno hsp
      go_wp2
      go_ret
      exact ⟨ret_int HE.out.symm, hb.below (by simp) (Nat.le_refl _)⟩

end Go.Proofs.YtakpalnhjmkkeaaDoor
