/- The inbox: InboxAgain. -/
import Derived.Test.YtgdonejclggjlaaUA5
namespace Go.Proofs.Ytgdonejclggjlaa
open Go.RowKit Go.ChangeShapes Go.WideShapes
set_option maxRecDepth 100000

/-- m numbers from o on. -/
def upB (o m : Nat) : List Int := (List.range m).map fun i : Nat => ((o + i : Nat) : Int)
theorem upB_succ (o m : Nat) : upB o (m + 1) = upB o m ++ [((o + m : Nat) : Int)] := by unfold upB; rw [List.range_succ, List.map_append]; rfl
theorem upB_length (o m : Nat) : (upB o m).length = m := by simp [upB]
theorem upB_mem {o m : Nat} {x : Int} : x ∈ upB o m ↔ (o : Int) ≤ x ∧ x < o + m := by
  unfold upB
  rw [List.mem_map]
  constructor
  · rintro ⟨i, hi, rfl⟩
    have := List.mem_range.1 hi
    omega
  · rintro ⟨h1, h2⟩
    exact ⟨(x - o).toNat, List.mem_range.2 (by omega), by omega⟩
theorem upB_nodup (o m : Nat) : (upB o m).Nodup := List.pairwise_map.2 (List.nodup_range.imp fun {a b} hne e => hne (by have e : ((o + a : Nat) : Int) = ((o + b : Nat) : Int) := e; omega))
theorem upB_two (n m : Nat) (hn : n < 10) : (upB 0 n ++ upB 10 m).Nodup := List.nodup_append.2 ⟨upB_nodup _ _, upB_nodup _ _, fun a ha b hb e => by
  have h1 := upB_mem.1 ha
  have h2 := upB_mem.1 hb
  omega⟩
theorem bEnded_startP {l : List Int} (h : l ≠ []) : bEnded (startP l) = false := by
  cases l with
  | nil => exact absurd rfl h
  | cons t r => rfl
theorem Gm.Code.nil {St Pr : Type} {M : Gm St Pr} {m : Nat} {q : Pr} {v : Value} {w : World} (h : M.Code m q v w) (hq : M.ended q = true) : v = .nilFunc := by
  rcases h.shape with ⟨_, h⟩ | ⟨h1, _⟩
  · exact h
  · rw [hq] at h1; cases h1
theorem len_zero {l : List Int} {n : Nat} (h : l.length = n) (hn : n = 0) : l = [] := List.length_eq_zero_iff.1 (by omega)

set_option maxHeartbeats 4000000 in
theorem again9 (nn mm : Nat) (hnn : nn < 256) (hmm : mm < 256) (w : World) :
    Calls Try.prog 11 #[.int .u8 nn, .int .u8 mm] w fun e w' => e = .returned (.bool true) ∧ Below w.heap.size w w' := by
  obtain ⟨n, hn⟩ : ∃ n, nn % 10 = n := ⟨_, rfl⟩
  obtain ⟨m, hm⟩ : ∃ m, mm % 10 = m := ⟨_, rfl⟩
  have hn10 : n < 10 := by omega
  have hm10 : m < 10 := by omega
  have hmodn : ((nn : Int).tmod 10) = (n : Int) := by rw [← hn]; rw [Int.tmod_eq_emod_of_nonneg (by omega)]; omega
  have hmodm : ((mm : Int).tmod 10) = (m : Int) := by rw [← hm]; rw [Int.tmod_eq_emod_of_nonneg (by omega)]; omega
  have hwn : IntKind.i64.wrap (nn : Int) = nn := by rw [IntKind.wrap_i64]; omega
  have hwm : IntKind.i64.wrap (mm : Int) = mm := by rw [IntKind.wrap_i64]; omega
  have hwn2 : IntKind.i64.wrap (n : Int) = n := by rw [IntKind.wrap_i64]; omega
  have hwm2 : IntKind.i64.wrap (m : Int) = m := by rw [IntKind.wrap_i64]; omega
  go_enter Try.func11, Try.ntmps11
  go_wp2_with fail
  refine (speaks9_any _).mono ?_
  rintro e w1 ⟨rfl, b1⟩
  go_wp2_with fail
  clear hmodn hmodm hwn hwm hn hm
  refine (show Calls Try.prog 28 #[.int .i64 20] _ _ from fresh9_any 20 (by omega) w1).mono ?_
  rintro e w2 ⟨p, c, bn, ba, rfl, ha, hb, hc, hp, hbn, hba, la, ln⟩
  have hmf := hmf_run
  have y2 := fun (a : Addr) (f : FuncId) (c : Array Value) (w : World) => run_store Try.prog w a (.func (.func f) #[] c) .plain rfl
  have hb1 := hb.size
  have z1 := ha.head.lt
  obtain ⟨h1, hh⟩ : ∃ h1, w2.heap.size = h1 := ⟨_, rfl⟩
  obtain ⟨W3, hW3⟩ : ∃ W3, w2.alloc (.cells (bxC p 0 1 46 47 #[] #[ptr ba, ptr bn]) 62) = W3 := ⟨_, rfl⟩
  have k3 : Turns [] w2 W3 := by rw [← hW3]; exact (Turns.refl _ _).alloc _
  have lb : Lies W3 h1 62 (bxC p 0 1 46 47 #[] #[ptr ba, ptr bn]) := by rw [← hW3, ← hh]; exact Lies.new _ _ _
  have z3 : W3.heap.size = h1 + 1 := by rw [← hW3]; simp [hh]
  have ha3 := ha.turn k3 (by simp) (by simp)
  have la3 := la.turn k3 (by simp)
  have ln3 := ln.turn k3 (by simp)
  have b3 : Below w1.heap.size w1 W3 := hb.trans (k3.below (by simp) hb1)
  clear ha la ln k3 hb
  go_upto_region 7 with (fail)
  try rw [hh]
  try rw [hW3]
  clear hW3 y2 hmf
  have hO1 : Out W3 (.slice none 0 0) (upB 0 0) W3 := ⟨IRow.nil _ _, Below.refl _ _⟩
  go_wp2_with fail
  go_loopw [9, 11, 32] (fun v _ i W => ∃ j : Nat, i = .int .i64 (j : Int) ∧ j ≤ n ∧ Out W3 v (upB 0 j) W) (fun _ _ i _ => n - (intOf i).toNat)
  case atStart => exact ⟨0, rfl, Nat.zero_le _, hO1⟩
  case round =>
    clear hO1
    obtain ⟨j, rfl, hj, hO1⟩ := hrel
    generalize wr = W at *
    generalize u9 = ov at *
    by_cases hjn : j < n
    · have hl := upB_length 0 j
      have F := fun v' w' (h : Out W3 v' (upB 0 j ++ [(j : Int)]) w') => (show Out W3 v' (upB 0 (j + 1)) w' from by rw [upB_succ, Nat.zero_add]; exact h)
      have HF := Lib.hid F
      clear F
      generalize upB 0 j = ys at *
      go_wp2_with (first | (at_builtin; refine wpList_out hO1 (n := (j : Int)) (WalkArith.wf_i64 (by omega)) (by omega) (by rfl) (.tmp 35) (.tmp 37) rfl rfl rfl ?_; intro v3 w3 hO3) | fail)
      go_roundw
      case rel => exact ⟨j + 1, by go_num, by omega, HF.out _ _ hO3⟩
      case measure => simp [intOf]; omega
    · obtain rfl : j = n := by omega
      have hO2 : Out W (.slice none 0 0) (upB 10 0) W := ⟨IRow.nil _ _, Below.refl _ _⟩
      have HO1 := Lib.hid hO1
      have hlv := upB_length 0 j
      obtain ⟨A1, c1, hv1, _⟩ := hO1.row.row
      rw [hlv] at hv1
      clear hO1 hlv
      subst hv1
      go_wp2_with fail
      go_loopw [10, 12, 41] (fun v _ i X => ∃ q : Nat, i = .int .i64 (q : Int) ∧ q ≤ m ∧ Out W v (upB 10 q) X) (fun _ _ i _ => m - (intOf i).toNat)
      case atStart => exact ⟨0, rfl, Nat.zero_le _, hO2⟩
      case round =>
        clear hO2
        obtain ⟨q, rfl, hq, hO2⟩ := hrel
        generalize wr = X at *
        generalize u10 = tv at *
        by_cases hqm : q < m
        · have hl := upB_length 10 q
          have F := fun v' w' (h : Out W v' (upB 10 q ++ [(10 + q : Int)]) w') => (show Out W v' (upB 10 (q + 1)) w' from by rw [upB_succ]; exact h)
          have HF := Lib.hid F
          clear F
          have hw10 : IntKind.i64.wrap (10 + (q : Int)) = 10 + q := by rw [IntKind.wrap_i64]; omega
          generalize upB 10 q = ys at *
          go_wp2_with (first | (at_builtin; refine wpList_out hO2 (n := (10 + q : Int)) (WalkArith.wf_i64 (by omega)) (by omega) (by rfl) (.tmp 44) (.tmp 47) rfl rfl rfl ?_; intro v3 w3 hO3) | fail)
          go_roundw
          case rel => exact ⟨q + 1, by go_num, by omega, HF.out _ _ hO3⟩
          case measure => simp [intOf]; omega
        · obtain rfl : q = m := by omega
          have HO1 := HO1.out
          have hlv := upB_length 10 q
          obtain ⟨A2, c2, hv2, _⟩ := hO2.row.row
          rw [hlv] at hv2
          clear hlv
          have t3X : Turns [] W3 X := (Turns.of_below HO1.be (Nat.le_refl _)).trans (Turns.of_below hO2.be (Nat.le_refl _))
          obtain ⟨W5, hW5⟩ : ∃ W5, X.alloc (.cells #[.slice none 0 0, .slice none 0 0] 72) = W5 := ⟨_, rfl⟩
          have kX5 : Turns [] X W5 := by rw [← hW5]; exact (Turns.refl _ _).alloc _
          obtain ⟨ob, hob⟩ : ∃ ob, X.heap.size = ob := ⟨_, rfl⟩
          have lo : Lies W5 ob 72 #[.slice none 0 0, .slice none 0 0] := by rw [← hW5, ← hob]; exact Lies.new _ _ _
          have t35 := t3X.trans kX5
          have zX := t3X.size
          obtain ⟨hG, hI, hX, hR0⟩ := begin9 (W := W5) (B := w1.heap.size) (r := 1600) (ex := []) (ha3.turn t35 (by simp) (by simp)) (by omega) (bok_zero 20) lo (lb.turn t35 (by simp)) (la3.turn t35 (by simp)) (ln3.turn t35 (by simp)) (by omega) hc (by omega) (by omega) (by omega) (by simp) (by simp)
          obtain ⟨P, hP⟩ : ∃ P, (⟨p, c, w1.heap.size, 20, ob, []⟩ : BP) = P := ⟨_, rfl⟩
          have gp : P.n = 20 ∧ P.B = w1.heap.size ∧ P.ob = ob ∧ P.p = p ∧ P.ex = [] := by rw [← hP]; exact ⟨rfl, rfl, rfl, rfl, rfl⟩
          rw [hP] at hG hI hX hR0
          have hg := seqF_zero 20 (upB 0 j) (upB 10 q) 0
          obtain ⟨s0, hs0⟩ : ∃ s0, (⟨List.replicate (2 + 2 * 20) 0, 0, [], []⟩ : BSt) = s0 := ⟨_, rfl⟩
          have hI : BI P 1600 s0 W5 := by rw [← hs0]; exact hI
          rw [hs0] at hg
          have hM := bm_ok P hG
          have b5 : Below w1.heap.size w1 W5 := b3.trans (t35.below (by simp) (by omega))
          have r1 : IRow W5 w1.heap.size (.slice A1 j c1) (upB 0 j) := ((HO1.row.less (by omega)).below hO2.be (Nat.le_refl _)).kept fun g hg => kX5.block g (by have := ((HO1.row.less (B' := w1.heap.size) (by omega)).below hO2.be (Nat.le_refl _)).lt g hg; omega) (by simp)
          have r2 : IRow W5 w1.heap.size tv (upB 10 q) := (hO2.row.less (by have := HO1.be.size; omega)).kept fun g hg => kX5.block g (by have := hO2.row.lt g hg; omega) (by simp)
          obtain ⟨A1', c1', e1, hle1, hIL1⟩ := IL.of_irow r1 hI (by rw [upB_length]; omega) (fun g _ => ⟨by rw [gp.2.2.2.2]; simp, hR0 g⟩)
          injection e1 with e1 e2 e3
          clear e2
          subst e1
          subst e3
          obtain ⟨A2', c2', e1, hle2, hIL2⟩ := IL.of_irow r2 hI (by rw [upB_length]; omega) (fun g _ => ⟨by rw [gp.2.2.2.2]; simp, hR0 g⟩)
          rw [hv2] at e1
          injection e1 with e1 e2 e3
          clear e2
          subst e1
          subst e3
          subst hv2
          have hl1 := upB_length 0 j
          have hl2 := upB_length 10 q
          have hA : bxP P #[ptr ba, ptr bn] = bxV p 0 1 46 47 #[] #[ptr ba, ptr bn] := by rw [← gp.2.2.2.1]
          have hPut : ∀ (l : List Int) (A : Option Addr) (cp : Nat), (∀ t : Int, t ∈ l → 0 ≤ t ∧ t < P.n) → l.length ≤ cp → IL P W5 A l → ∀ Y, Turns [] W5 Y → (BM P).Makes 1600 (startP l) 30 #[bxP P #[ptr ba, ptr bn], .slice A l.length cp, .nilFunc] Y := fun l A cp hl hle hil Y t => by
            have hi := hI.turns t (by simp)
            have hx := hX.turns hG hI t (by simp) (by simp)
            exact puts_g hG (ba := ba) (bn := bn) 1600 l hl A cp Y 1600 s0 hle hi (hil.mv ((hM.okw _ _ _ hI).mv hM t)) hx.xa hx.xn
          have hDr : ∀ k : Nat, k ≤ 1000 → ∀ Y, Turns [] W5 Y → (BM P).Makes 1600 (startD k) 31 #[bxP P #[ptr ba, ptr bn], .int .i64 (k : Int), ptr ob] Y := fun k hk Y t => by
            have := drains_g P hG (dcap := #[ptr ba, ptr bn]) 1600 k hk Y (hM.okw _ _ _ (hI.turns t (by simp)))
            rw [gp.2.2.1] at this
            exact this
          have hP1 := hPut (upB 0 j) A1 c1 (fun t ht => by have := upB_mem.1 ht; rw [gp.1]; omega) hle1 hIL1
          have hP2 := hPut (upB 10 q) A2 c2 (fun t ht => by have := upB_mem.1 ht; rw [gp.1]; omega) hle2 hIL2
          have hD1 : ∀ Y, Turns [] W5 Y → (BM P).Makes 1600 (startD 1) 31 #[bxP P #[ptr ba, ptr bn], .int .i64 1, ptr ob] Y := hDr 1 (by omega)
          have hD2 : ∀ Y, Turns [] W5 Y → (BM P).Makes 1600 (startD 2) 31 #[bxP P #[ptr ba, ptr bn], .int .i64 2, ptr ob] Y := hDr 2 (by omega)
          rw [hl1] at hP1
          rw [hl2] at hP2
          rw [hA] at hP1 hP2 hD1 hD2
          obtain ⟨c0, c1', c2', c3, c4, c5, c6⟩ := hX.cells
          rw [gp.2.2.2.1] at c0 c4
          have g0 := hX.box.lt
          have HI := Lib.hid hI
          have HX := Lib.hid (And.intro hX gp)
          have HG := Lib.hid hg
          have hne1 : j = 0 ∨ 0 < j := by omega
          have hne2 : q = 0 ∨ 0 < q := by omega
          have cd1 : ∀ {v : Value} {Y : World}, 0 < j → (BM P).Code 1600 (startP (upB 0 j)) v Y → ∃ g cap, v = .func (.func g) #[] cap := fun h hc => hc.func (bEnded_startP (fun e => by have := congrArg List.length e; rw [hl1] at this; simp at this; omega))
          have cd2 : ∀ {v : Value} {Y : World}, 0 < q → (BM P).Code 1600 (startP (upB 10 q)) v Y → ∃ g cap, v = .func (.func g) #[] cap := fun h hc => hc.func (bEnded_startP (fun e => by have := congrArg List.length e; rw [hl2] at this; simp at this; omega))
          have cn1 : ∀ {v : Value} {Y : World}, j = 0 → (BM P).Code 1600 (startP (upB 0 j)) v Y → v = .nilFunc := fun h hc => hc.nil (by rw [len_zero hl1 h]; rfl)
          have cn2 : ∀ {v : Value} {Y : World}, q = 0 → (BM P).Code 1600 (startP (upB 10 q)) v Y → v = .nilFunc := fun h hc => hc.nil (by rw [len_zero hl2 h]; rfl)
          have H1 := Lib.hid hl1
          have H2 := Lib.hid hl2
          have HN : Hid ((upB 0 j ++ upB 10 q).Nodup ∧ ∀ a, a ∈ upB 0 j ++ upB 10 q → 0 ≤ a ∧ a < ((20 : Nat) : Int)) := Lib.hid ⟨upB_two j q hn10, fun a ha => by
            rcases List.mem_append.1 ha with h | h
            · have := upB_mem.1 h; omega
            · have := upB_mem.1 h; omega⟩
          have CD1 := Lib.hid (And.intro (@cd1) (@cn1))
          have CD2 := Lib.hid (And.intro (@cd2) (@cn2))
          clear cd1 cd2 cn1 cn2 hl1 hl2
          clear hI hX hR0 hg ha3 la3 ln3 lb lo hP hs0 hA hM gp hPut hDr hIL1 hIL2 hle1 hle2 r1 r2 HO1 hO2 t3X t35 kX5 b3
          unfold Gm.Makes at hP1 hP2 hD1 hD2
          generalize upB 0 j = one at *
          generalize upB 10 q = two at *
          go_upto_region 19 with (fail)
          try rw [hob]
          try rw [hW5]
          clear hW5
          go_cut [64, 65, 66] (fun a b cc wc => b = .int .i64 4 ∧ cc = .int .i64 0 ∧ ∃ g cv, a = .slice (some ⟨g, 0, none⟩) 4 4 ∧ Seq9 w1 P h1 ba bn w1.heap.size g 400 4 (seqP one two) cv (SeqF 20 one two) 0 wc)
          case first =>
            refine wp_region_held_drew (S := fun W' => W'.cell? ⟨h1, 0, none⟩ = some (ptr p) ∧ W'.cell? ⟨h1, 1, none⟩ = some (.int .i64 0) ∧ W'.cell? ⟨h1, 2, none⟩ = some (.func (.func 46) #[] #[]) ∧ W'.cell? ⟨h1, 3, none⟩ = some (.func (.func 47) #[] #[ptr ba, ptr bn]) ∧ W'.cell? ⟨h1, 4, none⟩ = some (ptr p) ∧ W'.cell? ⟨h1, 5, none⟩ = some (.int .i64 1) ∧ W'.cell? ⟨h1, 6, none⟩ = some (.func (.func 46) #[] #[])) (by kernel_rfl) ⟨c0, c1', c2', c3, c4, c5, c6⟩ (fun hHeld => ?_)
            refine wpAnyH_take (i := 0) (oi := { dst := some 52, op := Go.Op.load 62 (Go.Operand.tmp 7), type := 62, pos := "law.go:275", after := #[], guard := none }) (v := ?_) rfl (by kernel_rfl) (by kernel_rfl) (by kernel_rfl) (fun _ _ _ h => h) (Or.inl ⟨by rfl, ?_⟩) hHeld ?_
            rotate_left
            · intro w hSw; obtain ⟨hS0, hS1, hS2, hS3, hS4, hS5, hS6⟩ := hSw; go_simp; try with_reducible rfl
            rotate_left
            try simp only [Act.put, List.setIfInBounds_toArray, List.set_cons_zero, List.set_cons_succ]
            refine wpAnyH_take (i := 1) (oi := { dst := some 53, op := Go.Op.move (Go.Operand.tmp 9), type := 31, pos := "law.go:275", after := #[], guard := none }) (v := ?_) rfl (by kernel_rfl) (by kernel_rfl) (by kernel_rfl) (fun _ _ _ h => h) (Or.inl ⟨by rfl, ?_⟩) hHeld ?_
            rotate_left
            · intro w hSw; obtain ⟨hS0, hS1, hS2, hS3, hS4, hS5, hS6⟩ := hSw; go_simp; try with_reducible rfl
            rotate_left
            try simp only [Act.put, List.setIfInBounds_toArray, List.set_cons_zero, List.set_cons_succ]
            refine wpAnyH_take (i := 3) (oi := { dst := some 55, op := Go.Op.load 62 (Go.Operand.tmp 7), type := 62, pos := "law.go:275", after := #[], guard := none }) (v := ?_) rfl (by kernel_rfl) (by kernel_rfl) (by kernel_rfl) (fun _ _ _ h => h) (Or.inl ⟨by rfl, ?_⟩) hHeld ?_
            rotate_left
            · intro w hSw; obtain ⟨hS0, hS1, hS2, hS3, hS4, hS5, hS6⟩ := hSw; go_simp; try with_reducible rfl
            rotate_left
            try simp only [Act.put, List.setIfInBounds_toArray, List.set_cons_zero, List.set_cons_succ]
            refine wpAnyH_take (i := 4) (oi := { dst := some 56, op := Go.Op.move (Go.Operand.tmp 13), type := 70, pos := "law.go:275", after := #[], guard := none }) (v := ?_) rfl (by kernel_rfl) (by kernel_rfl) (by kernel_rfl) (fun _ _ _ h => h) (Or.inl ⟨by rfl, ?_⟩) hHeld ?_
            rotate_left
            · intro w hSw; obtain ⟨hS0, hS1, hS2, hS3, hS4, hS5, hS6⟩ := hSw; go_simp; try with_reducible rfl
            rotate_left
            try simp only [Act.put, List.setIfInBounds_toArray, List.set_cons_zero, List.set_cons_succ]
            refine wpAnyH_take (i := 6) (oi := { dst := some 58, op := Go.Op.load 62 (Go.Operand.tmp 7), type := 62, pos := "law.go:275", after := #[], guard := none }) (v := ?_) rfl (by kernel_rfl) (by kernel_rfl) (by kernel_rfl) (fun _ _ _ h => h) (Or.inl ⟨by rfl, ?_⟩) hHeld ?_
            rotate_left
            · intro w hSw; obtain ⟨hS0, hS1, hS2, hS3, hS4, hS5, hS6⟩ := hSw; go_simp; try with_reducible rfl
            rotate_left
            try simp only [Act.put, List.setIfInBounds_toArray, List.set_cons_zero, List.set_cons_succ]
            refine wpAnyH_take (i := 7) (oi := { dst := some 59, op := Go.Op.move (Go.Operand.tmp 10), type := 31, pos := "law.go:275", after := #[], guard := none }) (v := ?_) rfl (by kernel_rfl) (by kernel_rfl) (by kernel_rfl) (fun _ _ _ h => h) (Or.inl ⟨by rfl, ?_⟩) hHeld ?_
            rotate_left
            · intro w hSw; obtain ⟨hS0, hS1, hS2, hS3, hS4, hS5, hS6⟩ := hSw; go_simp; try with_reducible rfl
            rotate_left
            try simp only [Act.put, List.setIfInBounds_toArray, List.set_cons_zero, List.set_cons_succ]
            refine wpAnyH_take (i := 9) (oi := { dst := some 61, op := Go.Op.load 62 (Go.Operand.tmp 7), type := 62, pos := "law.go:275", after := #[], guard := none }) (v := ?_) rfl (by kernel_rfl) (by kernel_rfl) (by kernel_rfl) (fun _ _ _ h => h) (Or.inl ⟨by rfl, ?_⟩) hHeld ?_
            rotate_left
            · intro w hSw; obtain ⟨hS0, hS1, hS2, hS3, hS4, hS5, hS6⟩ := hSw; go_simp; try with_reducible rfl
            rotate_left
            try simp only [Act.put, List.setIfInBounds_toArray, List.set_cons_zero, List.set_cons_succ]
            refine wpAnyH_take (i := 10) (oi := { dst := some 62, op := Go.Op.move (Go.Operand.tmp 13), type := 70, pos := "law.go:275", after := #[], guard := none }) (v := ?_) rfl (by kernel_rfl) (by kernel_rfl) (by kernel_rfl) (fun _ _ _ h => h) (Or.inl ⟨by rfl, ?_⟩) hHeld ?_
            rotate_left
            · intro w hSw; obtain ⟨hS0, hS1, hS2, hS3, hS4, hS5, hS6⟩ := hSw; go_simp; try with_reducible rfl
            rotate_left
            try simp only [Act.put, List.setIfInBounds_toArray, List.set_cons_zero, List.set_cons_succ]
            refine wpAnyH_take (i := 14) (oi := { dst := some 66, op := Go.Op.move (Go.Operand.const (Go.Value.int Go.IntKind.i64 0)), type := 3, pos := "law.go:275", after := #[], guard := none }) (v := ?_) rfl (by kernel_rfl) (by kernel_rfl) (by kernel_rfl) (fun _ _ _ h => h) (Or.inl ⟨by rfl, ?_⟩) hHeld ?_
            rotate_left
            · intro w hSw; obtain ⟨hS0, hS1, hS2, hS3, hS4, hS5, hS6⟩ := hSw; go_simp; try with_reducible rfl
            rotate_left
            try simp only [Act.put, List.setIfInBounds_toArray, List.set_cons_zero, List.set_cons_succ]
            refine wpAnyH_ready (rs := [2]) (by kernel_rfl) (by simp) ?_
            refine AllReadyH.cons (o := { dst := some 54, op := Go.Op.call { callee := Go.Callee.value (Go.Operand.func 30), args := #[Go.Operand.tmp 52, Go.Operand.tmp 53, Go.Operand.const Go.Value.nilFunc], argTypes := #[62, 31, 81] }, type := 38, pos := "law.go:275", after := #[{ on := 0, ground := Go.Ground.data }, { on := 1, ground := Go.Ground.data }], guard := none }) rfl (fun K hK => ?_) AllReadyH.nil
            go_simp
            refine (hP1 _ ((Turns.refl [] W5).drew)).mono ?_
            rintro e w3 ⟨v1, rfl, hc1, t3⟩
            have t3' := t3
            have t3 := ((Turns.refl [] W5).drew).trans t3
            have kB := (And.intro (((t3).cell (p := ⟨h1, 0, none⟩) g0 (by simp)).trans c0) (And.intro (((t3).cell (p := ⟨h1, 1, none⟩) g0 (by simp)).trans c1') (And.intro (((t3).cell (p := ⟨h1, 2, none⟩) g0 (by simp)).trans c2') (And.intro (((t3).cell (p := ⟨h1, 3, none⟩) g0 (by simp)).trans c3) (And.intro (((t3).cell (p := ⟨h1, 4, none⟩) g0 (by simp)).trans c4) (And.intro (((t3).cell (p := ⟨h1, 5, none⟩) g0 (by simp)).trans c5) (((t3).cell (p := ⟨h1, 6, none⟩) g0 (by simp)).trans c6)))))))
            go_wp2_with fail
            refine hK.out _ _ kB (fun hHeld => ?_)
            clear hK K
            try simp only [Act.put, List.setIfInBounds_toArray, List.set_cons_zero, List.set_cons_succ]
            refine wpAnyH_ready (rs := [5]) (by kernel_rfl) (by simp) ?_
            refine AllReadyH.cons (o := { dst := some 57, op := Go.Op.call { callee := Go.Callee.value (Go.Operand.func 31), args := #[Go.Operand.tmp 55, Go.Operand.const (Go.Value.int Go.IntKind.i64 1), Go.Operand.tmp 56], argTypes := #[62, 3, 70] }, type := 38, pos := "law.go:275", after := #[{ on := 3, ground := Go.Ground.data }, { on := 4, ground := Go.Ground.data }, { on := 2, ground := Go.Ground.chain }], guard := none }) rfl (fun K hK => ?_) AllReadyH.nil
            go_simp
            refine (hD1 _ t3).mono ?_
            rintro e w4 ⟨v2, rfl, hc2, t4⟩
            have t4' := t4
            have t4 := t3.trans t4
            have kB := (And.intro (((t4).cell (p := ⟨h1, 0, none⟩) g0 (by simp)).trans c0) (And.intro (((t4).cell (p := ⟨h1, 1, none⟩) g0 (by simp)).trans c1') (And.intro (((t4).cell (p := ⟨h1, 2, none⟩) g0 (by simp)).trans c2') (And.intro (((t4).cell (p := ⟨h1, 3, none⟩) g0 (by simp)).trans c3) (And.intro (((t4).cell (p := ⟨h1, 4, none⟩) g0 (by simp)).trans c4) (And.intro (((t4).cell (p := ⟨h1, 5, none⟩) g0 (by simp)).trans c5) (((t4).cell (p := ⟨h1, 6, none⟩) g0 (by simp)).trans c6)))))))
            go_wp2_with fail
            refine hK.out _ _ kB (fun hHeld => ?_)
            clear hK K
            try simp only [Act.put, List.setIfInBounds_toArray, List.set_cons_zero, List.set_cons_succ]
            refine wpAnyH_ready (rs := [8]) (by kernel_rfl) (by simp) ?_
            refine AllReadyH.cons (o := { dst := some 60, op := Go.Op.call { callee := Go.Callee.value (Go.Operand.func 30), args := #[Go.Operand.tmp 58, Go.Operand.tmp 59, Go.Operand.const Go.Value.nilFunc], argTypes := #[62, 31, 81] }, type := 38, pos := "law.go:275", after := #[{ on := 6, ground := Go.Ground.data }, { on := 7, ground := Go.Ground.data }, { on := 5, ground := Go.Ground.chain }], guard := none }) rfl (fun K hK => ?_) AllReadyH.nil
            go_simp
            refine (hP2 _ t4).mono ?_
            rintro e w5 ⟨v3, rfl, hc3, t5⟩
            have t5' := t5
            have t5 := t4.trans t5
            have kB := (And.intro (((t5).cell (p := ⟨h1, 0, none⟩) g0 (by simp)).trans c0) (And.intro (((t5).cell (p := ⟨h1, 1, none⟩) g0 (by simp)).trans c1') (And.intro (((t5).cell (p := ⟨h1, 2, none⟩) g0 (by simp)).trans c2') (And.intro (((t5).cell (p := ⟨h1, 3, none⟩) g0 (by simp)).trans c3) (And.intro (((t5).cell (p := ⟨h1, 4, none⟩) g0 (by simp)).trans c4) (And.intro (((t5).cell (p := ⟨h1, 5, none⟩) g0 (by simp)).trans c5) (((t5).cell (p := ⟨h1, 6, none⟩) g0 (by simp)).trans c6)))))))
            go_wp2_with fail
            refine hK.out _ _ kB (fun hHeld => ?_)
            clear hK K
            try simp only [Act.put, List.setIfInBounds_toArray, List.set_cons_zero, List.set_cons_succ]
            refine wpAnyH_ready (rs := [11]) (by kernel_rfl) (by simp) ?_
            refine AllReadyH.cons (o := { dst := some 63, op := Go.Op.call { callee := Go.Callee.value (Go.Operand.func 31), args := #[Go.Operand.tmp 61, Go.Operand.const (Go.Value.int Go.IntKind.i64 2), Go.Operand.tmp 62], argTypes := #[62, 3, 70] }, type := 38, pos := "law.go:275", after := #[{ on := 9, ground := Go.Ground.data }, { on := 10, ground := Go.Ground.data }, { on := 8, ground := Go.Ground.chain }], guard := none }) rfl (fun K hK => ?_) AllReadyH.nil
            go_simp
            refine (hD2 _ t5).mono ?_
            rintro e w6 ⟨v4, rfl, hc4, t6⟩
            have t6' := t6
            have t6 := t5.trans t6
            have kB := (And.intro (((t6).cell (p := ⟨h1, 0, none⟩) g0 (by simp)).trans c0) (And.intro (((t6).cell (p := ⟨h1, 1, none⟩) g0 (by simp)).trans c1') (And.intro (((t6).cell (p := ⟨h1, 2, none⟩) g0 (by simp)).trans c2') (And.intro (((t6).cell (p := ⟨h1, 3, none⟩) g0 (by simp)).trans c3) (And.intro (((t6).cell (p := ⟨h1, 4, none⟩) g0 (by simp)).trans c4) (And.intro (((t6).cell (p := ⟨h1, 5, none⟩) g0 (by simp)).trans c5) (((t6).cell (p := ⟨h1, 6, none⟩) g0 (by simp)).trans c6)))))))
            go_wp2_with fail
            refine hK.out _ _ kB (fun hHeld => ?_)
            clear hK K
            try simp only [Act.put, List.setIfInBounds_toArray, List.set_cons_zero, List.set_cons_succ]
            have hi6 := HI.out.turns t6 (by simp)
            have hM := bm_ok P hG
            obtain ⟨hX, gp⟩ := HX.out
            have m34 := ((hM.okw _ _ _ (HI.out.turns t3 (by simp))).mv hM t4')
            have m45 := ((hM.okw _ _ _ (HI.out.turns t4 (by simp))).mv hM t5')
            have m56 := ((hM.okw _ _ _ (HI.out.turns t5 (by simp))).mv hM t6')
            have F : ∀ g, g = w6.heap.size → ∃ g' cv, Value.slice (some ⟨g, 0, none⟩) 4 4 = .slice (some ⟨g', 0, none⟩) 4 4 ∧ Seq9 w1 P h1 ba bn w1.heap.size g' 400 4 (seqP one two) cv (SeqF 20 one two) 0 (w6.alloc (.cells #[v1, v2, v3, v4] 38)) := fun g hg => by
              subst hg
              have k6 : Turns [] w6 (w6.alloc (.cells #[v1, v2, v3, v4] 38)) := (Turns.refl _ _).alloc _
              have m67 := (hM.okw _ _ _ hi6).mv hM k6
              have t7 := t6.trans k6
              refine ⟨w6.heap.size, (fun k => match k with | 0 => v1 | 1 => v2 | 2 => v3 | _ => v4), rfl, ⟨s0, HI.out.turns t7 (by simp), HG.out⟩, fun k _ hk => ?_, ⟨_, Lies.new _ _ _, fun k hk => ?_⟩, hX.turns hG HI.out t7 (by simp) (by simp), b5.trans (t7.below (by simp) (by rw [← gp.2.1]; exact (hM.okw _ _ _ HI.out).base))⟩
              · rcases (by omega : k = 0 ∨ k = 1 ∨ k = 2 ∨ k = 3) with rfl | rfl | rfl | rfl
                · exact hc1.mv (((m34.trans m45).trans m56).trans m67)
                · exact hc2.mv ((m45.trans m56).trans m67)
                · exact hc3.mv (m56.trans m67)
                · exact hc4.mv m67
              · rcases (by omega : k = 0 ∨ k = 1 ∨ k = 2 ∨ k = 3) with rfl | rfl | rfl | rfl <;> rfl
            have HF := Lib.hid F
            have s1 := hc1.is
            have s2 := hc2.func rfl
            have s3 := hc3.is
            have s4 := hc4.func rfl
            have kE := fun (o : Obj) => (And.intro (((t6.alloc o).cell (p := ⟨h1, 0, none⟩) g0 (by simp)).trans c0) (And.intro (((t6.alloc o).cell (p := ⟨h1, 1, none⟩) g0 (by simp)).trans c1') (And.intro (((t6.alloc o).cell (p := ⟨h1, 2, none⟩) g0 (by simp)).trans c2') (And.intro (((t6.alloc o).cell (p := ⟨h1, 3, none⟩) g0 (by simp)).trans c3) (And.intro (((t6.alloc o).cell (p := ⟨h1, 4, none⟩) g0 (by simp)).trans c4) (And.intro (((t6.alloc o).cell (p := ⟨h1, 5, none⟩) g0 (by simp)).trans c5) (((t6.alloc o).cell (p := ⟨h1, 6, none⟩) g0 (by simp)).trans c6)))))))
            clear F hi6 hM hX gp m34 m45 m56 hc1 hc2 hc3 hc4 t3' t4' t5' t6'
            obtain ⟨f2, cap2, rfl⟩ := s2
            obtain ⟨f4, cap4, rfl⟩ := s4
            rcases s1 with rfl | ⟨f1, cap1, rfl⟩ <;> rcases s3 with rfl | ⟨f3, cap3, rfl⟩
            all_goals
              refine wpAnyH_ready (rs := [12]) (by kernel_rfl) (by simp) ?_
              refine AllReadyH.cons (o := { dst := some 64, op := Go.Op.buildSlice 84 4 #[(0, Go.Operand.tmp 54), (1, Go.Operand.tmp 57), (2, Go.Operand.tmp 60), (3, Go.Operand.tmp 63)], type := 84, pos := "law.go:275", after := #[{ on := 2, ground := Go.Ground.data }, { on := 5, ground := Go.Ground.data }, { on := 8, ground := Go.Ground.data }, { on := 11, ground := Go.Ground.data }], guard := none }) rfl (fun K hK => ?_) AllReadyH.nil
              go_simp
              refine hK.out _ _ (kE _) (fun hHeld => ?_)
              clear hK K
              try simp only [Act.put, List.setIfInBounds_toArray, List.set_cons_zero, List.set_cons_succ]
              refine wpAnyH_ready (rs := [13]) (by kernel_rfl) (by simp) ?_
              refine AllReadyH.cons (o := { dst := some 65, op := Go.Op.call { callee := Go.Callee.builtin Go.Builtin.len, args := #[Go.Operand.tmp 64], argTypes := #[84] }, type := 3, pos := "law.go:275", after := #[{ on := 12, ground := Go.Ground.data }], guard := none }) rfl (fun K hK => ?_) AllReadyH.nil
              go_simp
              refine hK.out _ _ (kE _) (fun hHeld => ?_)
              clear hK K
              try simp only [Act.put, List.setIfInBounds_toArray, List.set_cons_zero, List.set_cons_succ]
              refine wpAnyH_done (by kernel_rfl) ?_ _
              go_wp2_with fail
              go_meet
              case rel => exact ⟨by trivial, by trivial, HF.out _ rfl⟩
          case rest =>
            obtain ⟨rfl, rfl, g, cv, rfl, seq⟩ := hcut
            obtain ⟨hX, gp⟩ := HX.out
            have hjl : one.length = j := H1.out
            have hql : two.length = q := H2.out
            have hD : Does9 P 400 4 (seqP one two) (SeqF 20 one two) := seqF_next gp.1 (by omega) (by omega) (by omega) HN.out.1 (fun a ha => HN.out.2 a ha) (by omega) (.inl (by omega)) (by omega)
            have HO := Lib.hid gp
            have HD := Lib.hid hD
            have HL := Lib.hid (And.intro hjl hql)
            have hw5 : IntKind.i64.wrap ((j : Int) + q) = j + q := by rw [IntKind.wrap_i64]; omega
            clear hD hX gp HX HI HG hP1 hP2 hD1 hD2 c0 c1' c2' c3 c4 c5 c6 g0 CD1 CD2 hjl hql HN
            go_wp2_with fail
            go_loopw [15, 16, 66] (fun _ _ i W => ∃ k : Nat, i = .int .i64 (k : Int) ∧ k ≤ 4 ∧ Seq9 w1 P h1 ba bn w1.heap.size g 400 4 (seqP one two) cv (SeqF 20 one two) k W) (fun _ _ i _ => 4 - (intOf i).toNat)
            case atStart => exact ⟨0, rfl, by omega, seq⟩
            case round =>
              clear seq
              obtain ⟨k, rfl, hk, seq⟩ := hrel
              generalize wr = Y at *
              by_cases hk2 : k < 4
              · obtain ⟨hcell, hcode⟩ := seq.cell hk2
                have hn := newtask_any (cv k) hcode Y
                have hfin := seq.next hG HD.out (by rw [HO.out.2.1]; exact Nat.le_refl _) hk2 (by omega)
                clear seq
                generalize cv k = v at *
                rcases hcode with rfl | ⟨fv, capv, rfl⟩
                all_goals
                  go_wp2_with fail
                  refine hn.mono ?_
                  rintro e W1 ⟨rfl, hw1⟩
                  rw [hw1] at hfin
                  clear hw1
                  go_wp2_with fail
                  refine (show Calls Try.prog 18 #[ptr Y.heap.size, .int .i64 400] _ _ from hfin).mono ?_
                  rintro e W2' ⟨rfl, hs⟩
                  go_wp2
                  go_roundw
                  case rel => exact ⟨k + 1, by go_num, by omega, hs⟩
                  case measure => simp [intOf]; omega
              · obtain rfl : k = 4 := by omega
                obtain ⟨s, hs, N, T, q', hs', hT, hgb, _, hgot, hends⟩ := seq.si
                have be := seq.be
                obtain ⟨v, u, hl, hv, hu, _⟩ := hs.ow
                obtain ⟨e1, e2⟩ := HL.out
                have hgl : s.got.length = j + q := by rw [hgot]; show (one.reverse ++ two.reverse).length = _; simp [e1, e2]
                have hends : s.ends = [(j : Int), ((j + q : Nat) : Int), ((j + q : Nat) : Int)] := by rw [hends, ← e1, ← e2]; rfl
                have hP20 := HO.out.1
                have htold := (hgb.told (by omega) (by show (one ++ two).length ≤ 20; rw [List.length_append]; omega)).1
                have hbx : seqBx one two 4 = [] := rfl
                rw [hbx] at htold
                rw [hends] at hu
                have ej : ((j + q : Nat) : Int) = (j : Int) + q := by omega
                have hob : P.ob = ob := HO.out.2.2.1
                rw [hob] at hl
                have hwfe : Ints [(j : Int), ((j + q : Nat) : Int), ((j + q : Nat) : Int)] := by
                  intro y hy
                  simp at hy
                  rcases hy with rfl | rfl <;> exact WalkArith.wf_i64 (by omega)
                have hre : IRow Y P.B u [(j : Int), ((j + q : Nat) : Int), ((j + q : Nat) : Int)] := ⟨hu, hwfe⟩
                obtain ⟨Ae, ce, rfl, hrw⟩ := hre.row
                obtain ⟨Av, cg, hvv, _⟩ := own_slice hv
                rw [hgl] at hvv
                subst hvv
                have c9 : Y.cell? ⟨ob, 1, none⟩ = some (.slice Ae 3 ce) := hl.cell 1
                have c8 : Y.cell? ⟨ob, 0, none⟩ = some (.slice Av (j + q) cg) := hl.cell 0
                obtain ⟨Z, hZ⟩ : ∃ Z, Y.alloc (.cells #[.int .i64 (j : Int), .int .i64 ((j : Int) + q), .int .i64 ((j : Int) + q)] 3) = Z := ⟨_, rfl⟩
                have hlit : IRow Z w1.heap.size (.slice (some ⟨Y.heap.size, 0, none⟩) 3 3) [(j : Int), ((j + q : Nat) : Int), ((j + q : Nat) : Int)] := by
                  rw [← hZ, ← ej]
                  exact IRow.lit Y (B := w1.heap.size) _ _ rfl be.size hwfe (by simp)
                obtain ⟨A', c', e', hrw'⟩ := hlit.row
                injection e' with ea eb ec
                subst ea
                subst ec
                clear eb
                have kz : Turns [] Y Z := by rw [← hZ]; exact (Turns.refl _ _).alloc _
                have bz : Below Y.heap.size Y Z := kz.below (by simp) (Nat.le_refl _)
                have hsm := rsame_any Ae (some ⟨Y.heap.size, 0, none⟩) 3 ce 3 _ Z (hrw.keep (Nat.le_refl _) bz) hrw'
                have bZ := be.trans (bz.mono be.size)
                have szZ := bZ.size
                have F : ∀ Z2, Below Z.heap.size Z Z2 → Z2.cell? ⟨ob, 0, none⟩ = some (.slice Av (j + q) cg) ∧ (Z2.cell? ⟨h1, 0, none⟩ = some (ptr P.p) ∧ Z2.cell? ⟨h1, 1, none⟩ = some (.int .i64 0) ∧ Z2.cell? ⟨h1, 2, none⟩ = some (.func (.func 46) #[] #[]) ∧ Z2.cell? ⟨h1, 3, none⟩ = some (.func (.func 47) #[] #[ptr ba, ptr bn]) ∧ Z2.cell? ⟨h1, 4, none⟩ = some (ptr P.p) ∧ Z2.cell? ⟨h1, 5, none⟩ = some (.int .i64 1) ∧ Z2.cell? ⟨h1, 6, none⟩ = some (.func (.func 46) #[] #[])) ∧ (Calls Try.prog 33 #[bxP P #[ptr ba, ptr bn]] Z2 fun e w' => ∃ v, e = .returned v ∧ IRow w' Z2.heap.size v [] ∧ Below Z2.heap.size Z2 w') ∧ Below w1.heap.size w1 Z2 := fun Z2 b => by
                  have t : Turns [] Y Z2 := kz.trans (Turns.of_below b (Nat.le_refl _))
                  have hL := BI.lists (dcap := #[ptr ba, ptr bn]) hG (hs.turns t (by simp)) (by omega)
                  rw [htold] at hL
                  exact ⟨(hl.turn t (by simp)).cell 0, (seq.ctx.turns hG hs t (by simp) (by simp)).cells, hL, bZ.trans (b.mono szZ)⟩
                have HF := Lib.hid F
                clear F seq hs hl hv hu hre hrw hlit hrw' bz kz hgb hgot hends htold hbx hwfe ej e1 e2 hgl HL HD HO be hob hP20 hT hG
                go_wp2_with fail
                try rw [hZ]
                clear hZ
                refine hsm.mono ?_
                rintro e Z2 ⟨rfl, hb2⟩
                obtain ⟨d0, ⟨x0, x1, x2, x3, x4, x5, x6⟩, hL, bb⟩ := HF.out _ hb2
                clear hsm HF c8 c9
                go_wp2_with fail
                refine (show Calls Try.prog 33 _ _ _ from hL).mono ?_
                rintro e Z3 ⟨v3, rfl, r3, b3⟩
                obtain ⟨A3, c3, rfl, _⟩ := r3.row
                simp only [List.length_nil]
                go_wp2
                go_ret
                exact ⟨rfl, b1.trans ((bb.trans (b3.mono bb.size)).mono b1.size)⟩

theorem again9_nat (a b : Int) (w : World) (ha : 0 ≤ a ∧ a < 256) (hb : 0 ≤ b ∧ b < 256) :
    Calls Try.prog 11 #[.int .u8 a, .int .u8 b] w fun e w' => e = .returned (.bool true) ∧ Below w.heap.size w w' := by
  obtain ⟨x, rfl⟩ := Int.eq_ofNat_of_zero_le ha.1
  obtain ⟨y, rfl⟩ := Int.eq_ofNat_of_zero_le hb.1
  exact again9 x y (by omega) (by omega) w

end Go.Proofs.Ytgdonejclggjlaa
