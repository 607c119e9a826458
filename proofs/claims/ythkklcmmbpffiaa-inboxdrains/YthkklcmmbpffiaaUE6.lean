/- The inbox: InboxAgain. -/
import Derived.Test.YthkklcmmbpffiaaUE5
import Derived.BigQuiet
import Derived.RegionTactic
import Derived.BigRegion
import Derived.ProofKit
import Derived.WalkKit
import Derived.Laws.MakeOwn
import Derived.Deep.Grids
namespace Go.Proofs.Ythkklcmmbpffiaa
open Go.RowKit Go.ChangeShapes Go.WideShapes
set_option maxRecDepth 100000

/-- m numbers from o on. -/
def upB (o m : Nat) : List Int := (List.range m).map fun i : Nat => ((o + i : Nat) : Int)
theorem upB_succ (o m : Nat) : upB o (m + 1) = upB o m ++ [((o + m : Nat) : Int)] := by unfold upB; rw [List.range_succ, List.map_append]; rfl
theorem upB_length (o m : Nat) : (upB o m).length = m := by simp [upB]
theorem upB_mem {o m : Nat} {x : Int} : x ∈ upB o m ↔ (o : Int) ≤ x ∧ x < o + m := by
  unfold upB
  rw [List.mem_map]
  constructor
  · rintro ⟨i, hi, rfl⟩
    have := List.mem_range.1 hi
    omega
  · rintro ⟨h1, h2⟩
    exact ⟨(x - o).toNat, List.mem_range.2 (by omega), by omega⟩
theorem upB_nodup (o m : Nat) : (upB o m).Nodup := List.pairwise_map.2 (List.nodup_range.imp fun {a b} hne e => hne (by have e : ((o + a : Nat) : Int) = ((o + b : Nat) : Int) := e; omega))
theorem upB_two (n m : Nat) (hn : n < 10) : (upB 0 n ++ upB 10 m).Nodup := List.nodup_append.2 ⟨upB_nodup _ _, upB_nodup _ _, fun a ha b hb e => by
  have h1 := upB_mem.1 ha
  have h2 := upB_mem.1 hb
  omega⟩
theorem bEnded_startP {l : List Int} (h : l ≠ []) : bEnded (startP l) = false := by
  cases l with
  | nil => exact absurd rfl h
  | cons t r => rfl
theorem Gm.Code.nil {St Pr : Type} {M : Gm St Pr} {m : Nat} {q : Pr} {v : Value} {w : World} (h : M.Code m q v w) (hq : M.ended q = true) : v = .nilFunc := by
  rcases h.shape with ⟨_, h⟩ | ⟨h1, _⟩
  · exact h
  · rw [hq] at h1; cases h1
theorem len_zero {l : List Int} {n : Nat} (h : l.length = n) (hn : n = 0) : l = [] := List.length_eq_zero_iff.1 (by omega)

set_option maxHeartbeats 4000000 in
theorem again9 (nn mm : Nat) (hnn : nn < 256) (hmm : mm < 256) (w : World) :
    Calls Try.prog 11 #[.int .u8 nn, .int .u8 mm] w fun e w' => e = .returned (.bool true) ∧ Below w.heap.size w w' := by
  obtain ⟨n, hn⟩ : ∃ n, nn % 10 = n := ⟨_, rfl⟩
  obtain ⟨m, hm⟩ : ∃ m, mm % 10 = m := ⟨_, rfl⟩
  have hn10 : n < 10 := by omega
  have hm10 : m < 10 := by omega
  have hmodn : ((nn : Int).tmod 10) = (n : Int) := by rw [← hn]; rw [Int.tmod_eq_emod_of_nonneg (by omega)]; omega
  have hmodm : ((mm : Int).tmod 10) = (m : Int) := by rw [← hm]; rw [Int.tmod_eq_emod_of_nonneg (by omega)]; omega
  have hwn : IntKind.i64.wrap (nn : Int) = nn := by rw [IntKind.wrap_i64]; omega
  have hwm : IntKind.i64.wrap (mm : Int) = mm := by rw [IntKind.wrap_i64]; omega
  have hwn2 : IntKind.i64.wrap (n : Int) = n := by rw [IntKind.wrap_i64]; omega
  have hwm2 : IntKind.i64.wrap (m : Int) = m := by rw [IntKind.wrap_i64]; omega
  go_enter Try.func11, Try.ntmps11
  go_wp2_with fail
  refine (speaks9_any _).mono ?_
  rintro e w1 ⟨rfl, b1⟩
  go_wp2_with fail
  clear hmodn hmodm hwn hwm hn hm
  refine (show Calls Try.prog 28 #[.int .i64 20] _ _ from fresh9_any 20 (by omega) w1).mono ?_
  rintro e w2 ⟨p, c, bn, ba, rfl, ha, hb, hc, hp, hbn, hba, la, ln⟩
  have hmf := hmf_run
  have y2 := fun (a : Addr) (f : FuncId) (c : Array Value) (w : World) => run_store Try.prog w a (.func (.func f) #[] c) .plain rfl
  have hb1 := hb.size
  have z1 := ha.head.lt
  obtain ⟨h1, hh⟩ : ∃ h1, w2.heap.size = h1 := ⟨_, rfl⟩
  obtain ⟨W3, hW3⟩ : ∃ W3, w2.alloc (.cells (bxC p 0 1 46 47 #[] #[ptr ba, ptr bn]) 62) = W3 := ⟨_, rfl⟩
  have k3 : Turns [] w2 W3 := by rw [← hW3]; exact (Turns.refl _ _).alloc _
  have lb : Lies W3 h1 62 (bxC p 0 1 46 47 #[] #[ptr ba, ptr bn]) := by rw [← hW3, ← hh]; exact Lies.new _ _ _
  have z3 : W3.heap.size = h1 + 1 := by rw [← hW3]; simp [hh]
  have ha3 := ha.turn k3 (by simp) (by simp)
  have la3 := la.turn k3 (by simp)
  have ln3 := ln.turn k3 (by simp)
  have b3 : Below w1.heap.size w1 W3 := hb.trans (k3.below (by simp) hb1)
  clear ha la ln k3 hb
  go_upto_region 7 with (fail)
  try rw [hh]
  try rw [hW3]
  clear hW3 y2 hmf
  have hO1 : Out W3 (.slice none 0 0) (upB 0 0) W3 := ⟨IRow.nil _ _, Below.refl _ _⟩
  go_wp2_with fail
  go_loopw [9, 11, 32] (fun v _ i W => ∃ j : Nat, i = .int .i64 (j : Int) ∧ j ≤ n ∧ Out W3 v (upB 0 j) W) (fun _ _ i _ => n - (intOf i).toNat)
  case atStart => exact ⟨0, rfl, Nat.zero_le _, hO1⟩
  case round =>
    clear hO1
    obtain ⟨j, rfl, hj, hO1⟩ := hrel
    generalize wr = W at *
    generalize u9 = ov at *
    by_cases hjn : j < n
    · have hl := upB_length 0 j
      have F := fun v' w' (h : Out W3 v' (upB 0 j ++ [(j : Int)]) w') => (show Out W3 v' (upB 0 (j + 1)) w' from by rw [upB_succ, Nat.zero_add]; exact h)
      have HF := Lib.hid F
      clear F
      generalize upB 0 j = ys at *
      go_wp2_with (first | (at_builtin; refine wpList_out hO1 (n := (j : Int)) (WalkArith.wf_i64 (by omega)) (by omega) (by rfl) (.tmp 35) (.tmp 37) rfl rfl rfl ?_; intro v3 w3 hO3) | fail)
      go_roundw
      case rel => exact ⟨j + 1, by go_num, by omega, HF.out _ _ hO3⟩
      case measure => simp [intOf]; omega
    · obtain rfl : j = n := by omega
      have hO2 : Out W (.slice none 0 0) (upB 10 0) W := ⟨IRow.nil _ _, Below.refl _ _⟩
      have HO1 := Lib.hid hO1
      have hlv := upB_length 0 j
      obtain ⟨A1, c1, hv1, _⟩ := hO1.row.row
      rw [hlv] at hv1
      clear hO1 hlv
      subst hv1
      go_wp2_with fail
      go_loopw [10, 12, 41] (fun v _ i X => ∃ q : Nat, i = .int .i64 (q : Int) ∧ q ≤ m ∧ Out W v (upB 10 q) X) (fun _ _ i _ => m - (intOf i).toNat)
      case atStart => exact ⟨0, rfl, Nat.zero_le _, hO2⟩
      case round =>
        clear hO2
        obtain ⟨q, rfl, hq, hO2⟩ := hrel
        generalize wr = X at *
        generalize u10 = tv at *
        by_cases hqm : q < m
        · have hl := upB_length 10 q
          have F := fun v' w' (h : Out W v' (upB 10 q ++ [(10 + q : Int)]) w') => (show Out W v' (upB 10 (q + 1)) w' from by rw [upB_succ]; exact h)
          have HF := Lib.hid F
          clear F
          have hw10 : IntKind.i64.wrap (10 + (q : Int)) = 10 + q := by rw [IntKind.wrap_i64]; omega
          generalize upB 10 q = ys at *
          go_wp2_with (first | (at_builtin; refine wpList_out hO2 (n := (10 + q : Int)) (WalkArith.wf_i64 (by omega)) (by omega) (by rfl) (.tmp 44) (.tmp 47) rfl rfl rfl ?_; intro v3 w3 hO3) | fail)
          go_roundw
          case rel => exact ⟨q + 1, by go_num, by omega, HF.out _ _ hO3⟩
          case measure => simp [intOf]; omega
        · obtain rfl : q = m := by omega
          have HO1 := HO1.out
          have hlv := upB_length 10 q
          obtain ⟨A2, c2, hv2, _⟩ := hO2.row.row
          rw [hlv] at hv2
          clear hlv
          have t3X : Turns [] W3 X := (Turns.of_below HO1.be (Nat.le_refl _)).trans (Turns.of_below hO2.be (Nat.le_refl _))
          obtain ⟨W5, hW5⟩ : ∃ W5, X.alloc (.cells #[.slice none 0 0, .slice none 0 0] 72) = W5 := ⟨_, rfl⟩
          have kX5 : Turns [] X W5 := by rw [← hW5]; exact (Turns.refl _ _).alloc _
          obtain ⟨ob, hob⟩ : ∃ ob, X.heap.size = ob := ⟨_, rfl⟩
          have lo : Lies W5 ob 72 #[.slice none 0 0, .slice none 0 0] := by rw [← hW5, ← hob]; exact Lies.new _ _ _
          have t35 := t3X.trans kX5
          have zX := t3X.size
          obtain ⟨hG, hI, hX, hR0⟩ := begin9 (W := W5) (B := w1.heap.size) (r := 1600) (ex := []) (ha3.turn t35 (by simp) (by simp)) (by omega) (bok_zero 20) lo (lb.turn t35 (by simp)) (la3.turn t35 (by simp)) (ln3.turn t35 (by simp)) (by omega) hc (by omega) (by omega) (by omega) (by simp) (by simp)
          obtain ⟨P, hP⟩ : ∃ P, (⟨p, c, w1.heap.size, 20, ob, []⟩ : BP) = P := ⟨_, rfl⟩
          have gp : P.n = 20 ∧ P.B = w1.heap.size ∧ P.ob = ob ∧ P.p = p ∧ P.ex = [] := by rw [← hP]; exact ⟨rfl, rfl, rfl, rfl, rfl⟩
          rw [hP] at hG hI hX hR0
          have hg := seqF_zero 20 (upB 0 j) (upB 10 q) 0
          obtain ⟨s0, hs0⟩ : ∃ s0, (⟨List.replicate (2 + 2 * 20) 0, 0, [], []⟩ : BSt) = s0 := ⟨_, rfl⟩
          have hI : BI P 1600 s0 W5 := by rw [← hs0]; exact hI
          rw [hs0] at hg
          have hM := bm_ok P hG
          have b5 : Below w1.heap.size w1 W5 := b3.trans (t35.below (by simp) (by omega))
          have r1 : IRow W5 w1.heap.size (.slice A1 j c1) (upB 0 j) := ((HO1.row.less (by omega)).below hO2.be (Nat.le_refl _)).kept fun g hg => kX5.block g (by have := ((HO1.row.less (B' := w1.heap.size) (by omega)).below hO2.be (Nat.le_refl _)).lt g hg; omega) (by simp)
          have r2 : IRow W5 w1.heap.size tv (upB 10 q) := (hO2.row.less (by have := HO1.be.size; omega)).kept fun g hg => kX5.block g (by have := hO2.row.lt g hg; omega) (by simp)
          obtain ⟨A1', c1', e1, hle1, hIL1⟩ := IL.of_irow r1 hI (by rw [upB_length]; omega) (fun g _ => ⟨by rw [gp.2.2.2.2]; simp, hR0 g⟩)
          injection e1 with e1 e2 e3
          clear e2
          subst e1
          subst e3
          obtain ⟨A2', c2', e1, hle2, hIL2⟩ := IL.of_irow r2 hI (by rw [upB_length]; omega) (fun g _ => ⟨by rw [gp.2.2.2.2]; simp, hR0 g⟩)
          rw [hv2] at e1
          injection e1 with e1 e2 e3
          clear e2
          subst e1
          subst e3
          subst hv2
          have hl1 := upB_length 0 j
          have hl2 := upB_length 10 q
          have hA : bxP P #[ptr ba, ptr bn] = bxV p 0 1 46 47 #[] #[ptr ba, ptr bn] := by rw [← gp.2.2.2.1]
          have hPut : ∀ (l : List Int) (A : Option Addr) (cp : Nat), (∀ t : Int, t ∈ l → 0 ≤ t ∧ t < P.n) → l.length ≤ cp → IL P W5 A l → ∀ Y, Turns [] W5 Y → (BM P).Makes 1600 (startP l) 30 #[bxP P #[ptr ba, ptr bn], .slice A l.length cp, .nilFunc] Y := fun l A cp hl hle hil Y t => by
            have hi := hI.turns t (by simp)
            have hx := hX.turns hG hI t (by simp) (by simp)
            exact puts_g hG (ba := ba) (bn := bn) 1600 l hl A cp Y 1600 s0 hle hi (hil.mv ((hM.okw _ _ _ hI).mv hM t)) hx.xa hx.xn
          have hDr : ∀ k : Nat, k ≤ 1000 → ∀ Y, Turns [] W5 Y → (BM P).Makes 1600 (startD k) 31 #[bxP P #[ptr ba, ptr bn], .int .i64 (k : Int), ptr ob] Y := fun k hk Y t => by
            have := drains_g P hG (dcap := #[ptr ba, ptr bn]) 1600 k hk Y (hM.okw _ _ _ (hI.turns t (by simp)))
            rw [gp.2.2.1] at this
            exact this
          have hP1 := hPut (upB 0 j) A1 c1 (fun t ht => by have := upB_mem.1 ht; rw [gp.1]; omega) hle1 hIL1
          have hP2 := hPut (upB 10 q) A2 c2 (fun t ht => by have := upB_mem.1 ht; rw [gp.1]; omega) hle2 hIL2
          have hD1 : ∀ Y, Turns [] W5 Y → (BM P).Makes 1600 (startD 1) 31 #[bxP P #[ptr ba, ptr bn], .int .i64 1, ptr ob] Y := hDr 1 (by omega)
          have hD2 : ∀ Y, Turns [] W5 Y → (BM P).Makes 1600 (startD 2) 31 #[bxP P #[ptr ba, ptr bn], .int .i64 2, ptr ob] Y := hDr 2 (by omega)
          rw [hl1] at hP1
          rw [hl2] at hP2
          rw [hA] at hP1 hP2 hD1 hD2
          obtain ⟨c0, c1', c2', c3, c4, c5, c6⟩ := hX.cells
          rw [gp.2.2.2.1] at c0 c4
          have g0 := hX.box.lt
          have HI := Lib.hid hI
          have HX := Lib.hid (And.intro hX gp)
          have HG := Lib.hid hg
          have hne1 : j = 0 ∨ 0 < j := by omega
          have hne2 : q = 0 ∨ 0 < q := by omega
          have cd1 : ∀ {v : Value} {Y : World}, 0 < j → (BM P).Code 1600 (startP (upB 0 j)) v Y → ∃ g cap, v = .func (.func g) #[] cap := fun h hc => hc.func (bEnded_startP (fun e => by have := congrArg List.length e; rw [hl1] at this; simp at this; omega))
          have cd2 : ∀ {v : Value} {Y : World}, 0 < q → (BM P).Code 1600 (startP (upB 10 q)) v Y → ∃ g cap, v = .func (.func g) #[] cap := fun h hc => hc.func (bEnded_startP (fun e => by have := congrArg List.length e; rw [hl2] at this; simp at this; omega))
          have cn1 : ∀ {v : Value} {Y : World}, j = 0 → (BM P).Code 1600 (startP (upB 0 j)) v Y → v = .nilFunc := fun h hc => hc.nil (by rw [len_zero hl1 h]; rfl)
          have cn2 : ∀ {v : Value} {Y : World}, q = 0 → (BM P).Code 1600 (startP (upB 10 q)) v Y → v = .nilFunc := fun h hc => hc.nil (by rw [len_zero hl2 h]; rfl)
          have H1 := Lib.hid hl1
          have H2 := Lib.hid hl2
          have HN : Hid ((upB 0 j ++ upB 10 q).Nodup ∧ ∀ a, a ∈ upB 0 j ++ upB 10 q → 0 ≤ a ∧ a < ((20 : Nat) : Int)) := Lib.hid ⟨upB_two j q hn10, fun a ha => by
            rcases List.mem_append.1 ha with h | h
            · have := upB_mem.1 h; omega
            · have := upB_mem.1 h; omega⟩
          have CD1 := Lib.hid (And.intro (@cd1) (@cn1))
          have CD2 := Lib.hid (And.intro (@cd2) (@cn2))
          clear cd1 cd2 cn1 cn2 hl1 hl2
          clear hI hX hR0 hg ha3 la3 ln3 lb lo hP hs0 hA hM gp hPut hDr hIL1 hIL2 hle1 hle2 r1 r2 HO1 hO2 t3X t35 kX5 b3
          unfold Gm.Makes at hP1 hP2 hD1 hD2
          generalize upB 0 j = one at *
          generalize upB 10 q = two at *
          go_upto_region 19 with (fail)
          try rw [hob]
          try rw [hW5]
          clear hW5
          go_cut [64, 65, 66] (fun a b cc wc => b = .int .i64 4 ∧ cc = .int .i64 0 ∧ ∃ g cv, a = .slice (some ⟨g, 0, none⟩) 4 4 ∧ Seq9 w1 P h1 ba bn w1.heap.size g 400 4 (seqP one two) cv (SeqF 20 one two) 0 wc)
          case first =>
            refine wp_region_held_drew (S := fun W' => W'.cell? ⟨h1, 0, none⟩ = some (ptr p) ∧ W'.cell? ⟨h1, 1, none⟩ = some (.int .i64 0) ∧ W'.cell? ⟨h1, 2, none⟩ = some (.func (.func 46) #[] #[]) ∧ W'.cell? ⟨h1, 3, none⟩ = some (.func (.func 47) #[] #[ptr ba, ptr bn]) ∧ W'.cell? ⟨h1, 4, none⟩ = some (ptr p) ∧ W'.cell? ⟨h1, 5, none⟩ = some (.int .i64 1) ∧ W'.cell? ⟨h1, 6, none⟩ = some (.func (.func 46) #[] #[])) (by kernel_rfl) ⟨c0, c1', c2', c3, c4, c5, c6⟩ (fun hHeld => ?_)
            refine wpAnyH_take (i := 0) (oi := { dst := some 52, op := Go.Op.load 62 (Go.Operand.tmp 7), type := 62, pos := "law.go:275", after := #[], guard := none }) (v := ?_) rfl (by kernel_rfl) (by kernel_rfl) (by kernel_rfl) (fun _ _ _ h => h) (Or.inl ⟨by rfl, ?_⟩) hHeld ?_
            rotate_left
            · intro w hSw; obtain ⟨hS0, hS1, hS2, hS3, hS4, hS5, hS6⟩ := hSw; go_simp; try with_reducible rfl
            rotate_left
            try simp only [Act.put, List.setIfInBounds_toArray, List.set_cons_zero, List.set_cons_succ]
            refine wpAnyH_take (i := 1) (oi := { dst := some 53, op := Go.Op.move (Go.Operand.tmp 9), type := 31, pos := "law.go:275", after := #[], guard := none }) (v := ?_) rfl (by kernel_rfl) (by kernel_rfl) (by kernel_rfl) (fun _ _ _ h => h) (Or.inl ⟨by rfl, ?_⟩) hHeld ?_
            rotate_left
            · intro w hSw; obtain ⟨hS0, hS1, hS2, hS3, hS4, hS5, hS6⟩ := hSw; go_simp; try with_reducible rfl
            rotate_left
            try simp only [Act.put, List.setIfInBounds_toArray, List.set_cons_zero, List.set_cons_succ]
            refine wpAnyH_take (i := 3) (oi := { dst := some 55, op := Go.Op.load 62 (Go.Operand.tmp 7), type := 62, pos := "law.go:275", after := #[], guard := none }) (v := ?_) rfl (by kernel_rfl) (by kernel_rfl) (by kernel_rfl) (fun _ _ _ h => h) (Or.inl ⟨by rfl, ?_⟩) hHeld ?_
            rotate_left
            · intro w hSw; obtain ⟨hS0, hS1, hS2, hS3, hS4, hS5, hS6⟩ := hSw; go_simp; try with_reducible rfl
            rotate_left
            try simp only [Act.put, List.setIfInBounds_toArray, List.set_cons_zero, List.set_cons_succ]
            refine wpAnyH_take (i := 4) (oi := { dst := some 56, op := Go.Op.move (Go.Operand.tmp 13), type := 70, pos := "law.go:275", after := #[], guard := none }) (v := ?_) rfl (by kernel_rfl) (by kernel_rfl) (by kernel_rfl) (fun _ _ _ h => h) (Or.inl ⟨by rfl, ?_⟩) hHeld ?_
            rotate_left
            · intro w hSw; obtain ⟨hS0, hS1, hS2, hS3, hS4, hS5, hS6⟩ := hSw; go_simp; try with_reducible rfl
            rotate_left
            try simp only [Act.put, List.setIfInBounds_toArray, List.set_cons_zero, List.set_cons_succ]
            refine wpAnyH_take (i := 6) (oi := { dst := some 58, op := Go.Op.load 62 (Go.Operand.tmp 7), type := 62, pos := "law.go:275", after := #[], guard := none }) (v := ?_) rfl (by kernel_rfl) (by kernel_rfl) (by kernel_rfl) (fun _ _ _ h => h) (Or.inl ⟨by rfl, ?_⟩) hHeld ?_
            rotate_left
            · intro w hSw; obtain ⟨hS0, hS1, hS2, hS3, hS4, hS5, hS6⟩ := hSw; go_simp; try with_reducible rfl
            rotate_left
            try simp only [Act.put, List.setIfInBounds_toArray, List.set_cons_zero, List.set_cons_succ]
            refine wpAnyH_take (i := 7) (oi := { dst := some 59, op := Go.Op.move (Go.Operand.tmp 10), type := 31, pos := "law.go:275", after := #[], guard := none }) (v := ?_) rfl (by kernel_rfl) (by kernel_rfl) (by kernel_rfl) (fun _ _ _ h => h) (Or.inl ⟨by rfl, ?_⟩) hHeld ?_
            rotate_left
            · intro w hSw; obtain ⟨hS0, hS1, hS2, hS3, hS4, hS5, hS6⟩ := hSw; go_simp; try with_reducible rfl
            rotate_left
            try simp only [Act.put, List.setIfInBounds_toArray, List.set_cons_zero, List.set_cons_succ]
            refine wpAnyH_take (i := 9) (oi := { dst := some 61, op := Go.Op.load 62 (Go.Operand.tmp 7), type := 62, pos := "law.go:275", after := #[], guard := none }) (v := ?_) rfl (by kernel_rfl) (by kernel_rfl) (by kernel_rfl) (fun _ _ _ h => h) (Or.inl ⟨by rfl, ?_⟩) hHeld ?_
            rotate_left
            · intro w hSw; obtain ⟨hS0, hS1, hS2, hS3, hS4, hS5, hS6⟩ := hSw; go_simp; try with_reducible rfl
            rotate_left
            try simp only [Act.put, List.setIfInBounds_toArray, List.set_cons_zero, List.set_cons_succ]
            refine wpAnyH_take (i := 10) (oi := { dst := some 62, op := Go.Op.move (Go.Operand.tmp 13), type := 70, pos := "law.go:275", after := #[], guard := none }) (v := ?_) rfl (by kernel_rfl) (by kernel_rfl) (by kernel_rfl) (fun _ _ _ h => h) (Or.inl ⟨by rfl, ?_⟩) hHeld ?_
            rotate_left
            · intro w hSw; obtain ⟨hS0, hS1, hS2, hS3, hS4, hS5, hS6⟩ := hSw; go_simp; try with_reducible rfl
            rotate_left
            try simp only [Act.put, List.setIfInBounds_toArray, List.set_cons_zero, List.set_cons_succ]
            refine wpAnyH_take (i := 14) (oi := { dst := some 66, op := Go.Op.move (Go.Operand.const (Go.Value.int Go.IntKind.i64 0)), type := 3, pos := "law.go:275", after := #[], guard := none }) (v := ?_) rfl (by kernel_rfl) (by kernel_rfl) (by kernel_rfl) (fun _ _ _ h => h) (Or.inl ⟨by rfl, ?_⟩) hHeld ?_
            rotate_left
            · intro w hSw; obtain ⟨hS0, hS1, hS2, hS3, hS4, hS5, hS6⟩ := hSw; go_simp; try with_reducible rfl
            rotate_left
            try simp only [Act.put, List.setIfInBounds_toArray, List.set_cons_zero, List.set_cons_succ]
            refine wpAnyH_ready (rs := [2]) (by kernel_rfl) (by simp) ?_
            refine AllReadyH.cons (o := { dst := some 54, op := Go.Op.call { callee := Go.Callee.value (Go.Operand.func 30), args := #[Go.Operand.tmp 52, Go.Operand.tmp 53, Go.Operand.const Go.Value.nilFunc], argTypes := #[62, 31, 81] }, type := 38, pos := "law.go:275", after := #[{ on := 0, ground := Go.Ground.data }, { on := 1, ground := Go.Ground.data }], guard := none }) rfl (fun K hK => ?_) AllReadyH.nil
            go_simp
            refine (hP1 _ ((Turns.refl [] W5).drew)).mono ?_
            rintro e w3 ⟨v1, rfl, hc1, t3⟩
            have t3' := t3
            have t3 := ((Turns.refl [] W5).drew).trans t3
            have kB := (And.intro (((t3).cell (p := ⟨h1, 0, none⟩) g0 (by simp)).trans c0) (And.intro (((t3).cell (p := ⟨h1, 1, none⟩) g0 (by simp)).trans c1') (And.intro (((t3).cell (p := ⟨h1, 2, none⟩) g0 (by simp)).trans c2') (And.intro (((t3).cell (p := ⟨h1, 3, none⟩) g0 (by simp)).trans c3) (And.intro (((t3).cell (p := ⟨h1, 4, none⟩) g0 (by simp)).trans c4) (And.intro (((t3).cell (p := ⟨h1, 5, none⟩) g0 (by simp)).trans c5) (((t3).cell (p := ⟨h1, 6, none⟩) g0 (by simp)).trans c6)))))))
            go_wp2_with fail
            refine hK.out _ _ kB (fun hHeld => ?_)
            clear hK K
            try simp only [Act.put, List.setIfInBounds_toArray, List.set_cons_zero, List.set_cons_succ]
            refine wpAnyH_ready (rs := [5]) (by kernel_rfl) (by simp) ?_
            refine AllReadyH.cons (o := { dst := some 57, op := Go.Op.call { callee := Go.Callee.value (Go.Operand.func 31), args := #[Go.Operand.tmp 55, Go.Operand.const (Go.Value.int Go.IntKind.i64 1), Go.Operand.tmp 56], argTypes := #[62, 3, 70] }, type := 38, pos := "law.go:275", after := #[{ on := 3, ground := Go.Ground.data }, { on := 4, ground := Go.Ground.data }, { on := 2, ground := Go.Ground.chain }], guard := none }) rfl (fun K hK => ?_) AllReadyH.nil
            go_simp
            refine (hD1 _ t3).mono ?_
            rintro e w4 ⟨v2, rfl, hc2, t4⟩
            have t4' := t4
            have t4 := t3.trans t4
            have kB := (And.intro (((t4).cell (p := ⟨h1, 0, none⟩) g0 (by simp)).trans c0) (And.intro (((t4).cell (p := ⟨h1, 1, none⟩) g0 (by simp)).trans c1') (And.intro (((t4).cell (p := ⟨h1, 2, none⟩) g0 (by simp)).trans c2') (And.intro (((t4).cell (p := ⟨h1, 3, none⟩) g0 (by simp)).trans c3) (And.intro (((t4).cell (p := ⟨h1, 4, none⟩) g0 (by simp)).trans c4) (And.intro (((t4).cell (p := ⟨h1, 5, none⟩) g0 (by simp)).trans c5) (((t4).cell (p := ⟨h1, 6, none⟩) g0 (by simp)).trans c6)))))))
            go_wp2_with fail
            refine hK.out _ _ kB (fun hHeld => ?_)
            clear hK K
            try simp only [Act.put, List.setIfInBounds_toArray, List.set_cons_zero, List.set_cons_succ]
            refine wpAnyH_ready (rs := [8]) (by kernel_rfl) (by simp) ?_
            refine AllReadyH.cons (o := { dst := some 60, op := Go.Op.call { callee := Go.Callee.value (Go.Operand.func 30), args := #[Go.Operand.tmp 58, Go.Operand.tmp 59, Go.Operand.const Go.Value.nilFunc], argTypes := #[62, 31, 81] }, type := 38, pos := "law.go:275", after := #[{ on := 6, ground := Go.Ground.data }, { on := 7, ground := Go.Ground.data }, { on := 5, ground := Go.Ground.chain }], guard := none }) rfl (fun K hK => ?_) AllReadyH.nil
            go_simp
            refine (hP2 _ t4).mono ?_
            rintro e w5 ⟨v3, rfl, hc3, t5⟩
            have t5' := t5
            have t5 := t4.trans t5
            have kB := (And.intro (((t5).cell (p := ⟨h1, 0, none⟩) g0 (by simp)).trans c0) (And.intro (((t5).cell (p := ⟨h1, 1, none⟩) g0 (by simp)).trans c1') (And.intro (((t5).cell (p := ⟨h1, 2, none⟩) g0 (by simp)).trans c2') (And.intro (((t5).cell (p := ⟨h1, 3, none⟩) g0 (by simp)).trans c3) (And.intro (((t5).cell (p := ⟨h1, 4, none⟩) g0 (by simp)).trans c4) (And.intro (((t5).cell (p := ⟨h1, 5, none⟩) g0 (by simp)).trans c5) (((t5).cell (p := ⟨h1, 6, none⟩) g0 (by simp)).trans c6)))))))
            go_wp2_with fail
            refine hK.out _ _ kB (fun hHeld => ?_)
            clear hK K
            try simp only [Act.put, List.setIfInBounds_toArray, List.set_cons_zero, List.set_cons_succ]
            refine wpAnyH_ready (rs := [11]) (by kernel_rfl) (by simp) ?_
            refine AllReadyH.cons (o := { dst := some 63, op := Go.Op.call { callee := Go.Callee.value (Go.Operand.func 31), args := #[Go.Operand.tmp 61, Go.Operand.const (Go.Value.int Go.IntKind.i64 2), Go.Operand.tmp 62], argTypes := #[62, 3, 70] }, type := 38, pos := "law.go:275", after := #[{ on := 9, ground := Go.Ground.data }, { on := 10, ground := Go.Ground.data }, { on := 8, ground := Go.Ground.chain }], guard := none }) rfl (fun K hK => ?_) AllReadyH.nil
            go_simp
            refine (hD2 _ t5).mono ?_
            rintro e w6 ⟨v4, rfl, hc4, t6⟩
            have t6' := t6
            have t6 := t5.trans t6
            have kB := (And.intro (((t6).cell (p := ⟨h1, 0, none⟩) g0 (by simp)).trans c0) (And.intro (((t6).cell (p := ⟨h1, 1, none⟩) g0 (by simp)).trans c1') (And.intro (((t6).cell (p := ⟨h1, 2, none⟩) g0 (by simp)).trans c2') (And.intro (((t6).cell (p := ⟨h1, 3, none⟩) g0 (by simp)).trans c3) (And.intro (((t6).cell (p := ⟨h1, 4, none⟩) g0 (by simp)).trans c4) (And.intro (((t6).cell (p := ⟨h1, 5, none⟩) g0 (by simp)).trans c5) (((t6).cell (p := ⟨h1, 6, none⟩) g0 (by simp)).trans c6)))))))
            go_wp2_with fail
            refine hK.out _ _ kB (fun hHeld => ?_)
            clear hK K
            try simp only [Act.put, List.setIfInBounds_toArray, List.set_cons_zero, List.set_cons_succ]
            have hi6 := HI.out.turns t6 (by simp)
            have hM := bm_ok P hG
            obtain ⟨hX, gp⟩ := HX.out
            have m34 := ((hM.okw _ _ _ (HI.out.turns t3 (by simp))).mv hM t4')
            have m45 := ((hM.okw _ _ _ (HI.out.turns t4 (by simp))).mv hM t5')
            have m56 := ((hM.okw _ _ _ (HI.out.turns t5 (by simp))).mv hM t6')
            have F : ∀ g, g = w6.heap.size → ∃ g' cv, Value.slice (some ⟨g, 0, none⟩) 4 4 = .slice (some ⟨g', 0, none⟩) 4 4 ∧ Seq9 w1 P h1 ba bn w1.heap.size g' 400 4 (seqP one two) cv (SeqF 20 one two) 0 (w6.alloc (.cells #[v1, v2, v3, v4] 38)) := fun g hg => by
              subst hg
              have k6 : Turns [] w6 (w6.alloc (.cells #[v1, v2, v3, v4] 38)) := (Turns.refl _ _).alloc _
              have m67 := (hM.okw _ _ _ hi6).mv hM k6
              have t7 := t6.trans k6
              refine ⟨w6.heap.size, (fun k => match k with | 0 => v1 | 1 => v2 | 2 => v3 | _ => v4), rfl, ⟨s0, HI.out.turns t7 (by simp), HG.out⟩, fun k _ hk => ?_, ⟨_, Lies.new _ _ _, fun k hk => ?_⟩, hX.turns hG HI.out t7 (by simp) (by simp), b5.trans (t7.below (by simp) (by rw [← gp.2.1]; exact (hM.okw _ _ _ HI.out).base))⟩
              · rcases (by omega : k = 0 ∨ k = 1 ∨ k = 2 ∨ k = 3) with rfl | rfl | rfl | rfl
                · exact hc1.mv (((m34.trans m45).trans m56).trans m67)
                · exact hc2.mv ((m45.trans m56).trans m67)
                · exact hc3.mv (m56.trans m67)
                · exact hc4.mv m67
              · rcases (by omega : k = 0 ∨ k = 1 ∨ k = 2 ∨ k = 3) with rfl | rfl | rfl | rfl <;> rfl
            have HF := Lib.hid F
            have s1 := hc1.is
            have s2 := hc2.func rfl
            have s3 := hc3.is
            have s4 := hc4.func rfl
            have kE := fun (o : Obj) => (And.intro (((t6.alloc o).cell (p := ⟨h1, 0, none⟩) g0 (by simp)).trans c0) (And.intro (((t6.alloc o).cell (p := ⟨h1, 1, none⟩) g0 (by simp)).trans c1') (And.intro (((t6.alloc o).cell (p := ⟨h1, 2, none⟩) g0 (by simp)).trans c2') (And.intro (((t6.alloc o).cell (p := ⟨h1, 3, none⟩) g0 (by simp)).trans c3) (And.intro (((t6.alloc o).cell (p := ⟨h1, 4, none⟩) g0 (by simp)).trans c4) (And.intro (((t6.alloc o).cell (p := ⟨h1, 5, none⟩) g0 (by simp)).trans c5) (((t6.alloc o).cell (p := ⟨h1, 6, none⟩) g0 (by simp)).trans c6)))))))
            clear F hi6 hM hX gp m34 m45 m56 hc1 hc2 hc3 hc4 t3' t4' t5' t6'
            obtain ⟨f2, cap2, rfl⟩ := s2
            obtain ⟨f4, cap4, rfl⟩ := s4
            rcases s1 with rfl | ⟨f1, cap1, rfl⟩ <;> rcases s3 with rfl | ⟨f3, cap3, rfl⟩
            all_goals
              refine wpAnyH_ready (rs := [12]) (by kernel_rfl) (by simp) ?_
              refine AllReadyH.cons (o := { dst := some 64, op := Go.Op.buildSlice 84 4 #[(0, Go.Operand.tmp 54), (1, Go.Operand.tmp 57), (2, Go.Operand.tmp 60), (3, Go.Operand.tmp 63)], type := 84, pos := "law.go:275", after := #[{ on := 2, ground := Go.Ground.data }, { on := 5, ground := Go.Ground.data }, { on := 8, ground := Go.Ground.data }, { on := 11, ground := Go.Ground.data }], guard := none }) rfl (fun K hK => ?_) AllReadyH.nil
              go_simp
              refine hK.out _ _ (kE _) (fun hHeld => ?_)
              clear hK K
              try simp only [Act.put, List.setIfInBounds_toArray, List.set_cons_zero, List.set_cons_succ]
              refine wpAnyH_ready (rs := [13]) (by kernel_rfl) (by simp) ?_
              refine AllReadyH.cons (o := { dst := some 65, op := Go.Op.call { callee := Go.Callee.builtin Go.Builtin.len, args := #[Go.Operand.tmp 64], argTypes := #[84] }, type := 3, pos := "law.go:275", after := #[{ on := 12, ground := Go.Ground.data }], guard := none }) rfl (fun K hK => ?_) AllReadyH.nil
              go_simp
              refine hK.out _ _ (kE _) (fun hHeld => ?_)
              clear hK K
              try simp only [Act.put, List.setIfInBounds_toArray, List.set_cons_zero, List.set_cons_succ]
              refine wpAnyH_done (by kernel_rfl) ?_ _
              go_wp2_with fail
              go_meet
              case rel => exact ⟨by trivial, by trivial, HF.out _ rfl⟩
          case rest =>
            obtain ⟨rfl, rfl, g, cv, rfl, seq⟩ := hcut
            obtain ⟨hX, gp⟩ := HX.out
            have hjl : one.length = j := H1.out
            have hql : two.length = q := H2.out
            have hD : Does9 P 400 4 (seqP one two) (SeqF 20 one two) := seqF_next gp.1 (by omega) (by omega) (by omega) HN.out.1 (fun a ha => HN.out.2 a ha) (by omega) (.inl (by omega)) (by omega)
            have HO := Lib.hid gp
            have HD := Lib.hid hD
            have HL := Lib.hid (And.intro hjl hql)
            have hw5 : IntKind.i64.wrap ((j : Int) + q) = j + q := by rw [IntKind.wrap_i64]; omega
            clear hD hX gp HX HI HG hP1 hP2 hD1 hD2 c0 c1' c2' c3 c4 c5 c6 g0 CD1 CD2 hjl hql HN
            go_wp2_with fail
            go_loopw [15, 16, 66] (fun _ _ i W => ∃ k : Nat, i = .int .i64 (k : Int) ∧ k ≤ 4 ∧ Seq9 w1 P h1 ba bn w1.heap.size g 400 4 (seqP one two) cv (SeqF 20 one two) k W) (fun _ _ i _ => 4 - (intOf i).toNat)
            case atStart => exact ⟨0, rfl, by omega, seq⟩
            case round =>
              clear seq
              obtain ⟨k, rfl, hk, seq⟩ := hrel
              generalize wr = Y at *
              by_cases hk2 : k < 4
              · obtain ⟨hcell, hcode⟩ := seq.cell hk2
                have hn := newtask_any (cv k) hcode Y
                have hfin := seq.next hG HD.out (by rw [HO.out.2.1]; exact Nat.le_refl _) hk2 (by omega)
                clear seq
                generalize cv k = v at *
                rcases hcode with rfl | ⟨fv, capv, rfl⟩
                all_goals
                  go_wp2_with fail
                  refine hn.mono ?_
                  rintro e W1 ⟨rfl, hw1⟩
                  rw [hw1] at hfin
                  clear hw1
                  go_wp2_with fail
                  refine (show Calls Try.prog 18 #[ptr Y.heap.size, .int .i64 400] _ _ from hfin).mono ?_
                  rintro e W2' ⟨rfl, hs⟩
                  go_wp2
                  go_roundw
                  case rel => exact ⟨k + 1, by go_num, by omega, hs⟩
                  case measure => simp [intOf]; omega
              · obtain rfl : k = 4 := by omega
                obtain ⟨s, hs, N, T, q', hs', hT, hgb, _, hgot, hends⟩ := seq.si
                have be := seq.be
                obtain ⟨v, u, hl, hv, hu, _⟩ := hs.ow
                obtain ⟨e1, e2⟩ := HL.out
                have hgl : s.got.length = j + q := by rw [hgot]; show (one.reverse ++ two.reverse).length = _; simp [e1, e2]
                have hends : s.ends = [(j : Int), ((j + q : Nat) : Int), ((j + q : Nat) : Int)] := by rw [hends, ← e1, ← e2]; rfl
                have hP20 := HO.out.1
                have htold := (hgb.told (by omega) (by show (one ++ two).length ≤ 20; rw [List.length_append]; omega)).1
                have hbx : seqBx one two 4 = [] := rfl
                rw [hbx] at htold
                rw [hends] at hu
                have ej : ((j + q : Nat) : Int) = (j : Int) + q := by omega
                have hob : P.ob = ob := HO.out.2.2.1
                rw [hob] at hl
                have hwfe : Ints [(j : Int), ((j + q : Nat) : Int), ((j + q : Nat) : Int)] := by
                  intro y hy
                  simp at hy
                  rcases hy with rfl | rfl <;> exact WalkArith.wf_i64 (by omega)
                have hre : IRow Y P.B u [(j : Int), ((j + q : Nat) : Int), ((j + q : Nat) : Int)] := ⟨hu, hwfe⟩
                obtain ⟨Ae, ce, rfl, hrw⟩ := hre.row
                obtain ⟨Av, cg, hvv, _⟩ := own_slice hv
                rw [hgl] at hvv
                subst hvv
                have c9 : Y.cell? ⟨ob, 1, none⟩ = some (.slice Ae 3 ce) := hl.cell 1
                have c8 : Y.cell? ⟨ob, 0, none⟩ = some (.slice Av (j + q) cg) := hl.cell 0
                obtain ⟨Z, hZ⟩ : ∃ Z, Y.alloc (.cells #[.int .i64 (j : Int), .int .i64 ((j : Int) + q), .int .i64 ((j : Int) + q)] 3) = Z := ⟨_, rfl⟩
                have hlit : IRow Z w1.heap.size (.slice (some ⟨Y.heap.size, 0, none⟩) 3 3) [(j : Int), ((j + q : Nat) : Int), ((j + q : Nat) : Int)] := by
                  rw [← hZ, ← ej]
                  exact IRow.lit Y (B := w1.heap.size) _ _ rfl be.size hwfe (by simp)
                obtain ⟨A', c', e', hrw'⟩ := hlit.row
                injection e' with ea eb ec
                subst ea
                subst ec
                clear eb
                have kz : Turns [] Y Z := by rw [← hZ]; exact (Turns.refl _ _).alloc _
                have bz : Below Y.heap.size Y Z := kz.below (by simp) (Nat.le_refl _)
                have hsm := rsame_any Ae (some ⟨Y.heap.size, 0, none⟩) 3 ce 3 _ Z (hrw.keep (Nat.le_refl _) bz) hrw'
                have bZ := be.trans (bz.mono be.size)
                have szZ := bZ.size
                have F : ∀ Z2, Below Z.heap.size Z Z2 → Z2.cell? ⟨ob, 0, none⟩ = some (.slice Av (j + q) cg) ∧ (Z2.cell? ⟨h1, 0, none⟩ = some (ptr P.p) ∧ Z2.cell? ⟨h1, 1, none⟩ = some (.int .i64 0) ∧ Z2.cell? ⟨h1, 2, none⟩ = some (.func (.func 46) #[] #[]) ∧ Z2.cell? ⟨h1, 3, none⟩ = some (.func (.func 47) #[] #[ptr ba, ptr bn]) ∧ Z2.cell? ⟨h1, 4, none⟩ = some (ptr P.p) ∧ Z2.cell? ⟨h1, 5, none⟩ = some (.int .i64 1) ∧ Z2.cell? ⟨h1, 6, none⟩ = some (.func (.func 46) #[] #[])) ∧ (Calls Try.prog 33 #[bxP P #[ptr ba, ptr bn]] Z2 fun e w' => ∃ v, e = .returned v ∧ IRow w' Z2.heap.size v [] ∧ Below Z2.heap.size Z2 w') ∧ Below w1.heap.size w1 Z2 := fun Z2 b => by
                  have t : Turns [] Y Z2 := kz.trans (Turns.of_below b (Nat.le_refl _))
                  have hL := BI.lists (dcap := #[ptr ba, ptr bn]) hG (hs.turns t (by simp)) (by omega)
                  rw [htold] at hL
                  exact ⟨(hl.turn t (by simp)).cell 0, (seq.ctx.turns hG hs t (by simp) (by simp)).cells, hL, bZ.trans (b.mono szZ)⟩
                have HF := Lib.hid F
                clear F seq hs hl hv hu hre hrw hlit hrw' bz kz hgb hgot hends htold hbx hwfe ej e1 e2 hgl HL HD HO be hob hP20 hT hG
                go_wp2_with fail
                try rw [hZ]
                clear hZ
                refine hsm.mono ?_
                rintro e Z2 ⟨rfl, hb2⟩
                obtain ⟨d0, ⟨x0, x1, x2, x3, x4, x5, x6⟩, hL, bb⟩ := HF.out _ hb2
                clear hsm HF c8 c9
                go_wp2_with fail
                refine (show Calls Try.prog 33 _ _ _ from hL).mono ?_
                rintro e Z3 ⟨v3, rfl, r3, b3⟩
                obtain ⟨A3, c3, rfl, _⟩ := r3.row
                simp only [List.length_nil]
                go_wp2
                go_ret
                exact ⟨rfl, b1.trans ((bb.trans (b3.mono bb.size)).mono b1.size)⟩

theorem again9_nat (a b : Int) (w : World) (ha : 0 ≤ a ∧ a < 256) (hb : 0 ≤ b ∧ b < 256) :
    Calls Try.prog 11 #[.int .u8 a, .int .u8 b] w fun e w' => e = .returned (.bool true) ∧ Below w.heap.size w w' := by
  obtain ⟨x, rfl⟩ := Int.eq_ofNat_of_zero_le ha.1
  obtain ⟨y, rfl⟩ := Int.eq_ofNat_of_zero_le hb.1
  exact again9 x y (by omega) (by omega) w

end Go.Proofs.Ythkklcmmbpffiaa

/- The inbox: a drain and four who put: how they begin, how they are finished. -/
namespace Go.Proofs.Ythkklcmmbpffiaa
open Go.RowKit Go.ChangeShapes Go.WideShapes
set_option maxRecDepth 100000

/-- the drain and the others. -/
def qsF (D : Nat) (m : Nat → Nat) (k : Nat) : BPr := match k with
  | 0 => startD D
  | k + 1 => startP (upB (5 * k) (m k))
def hsF (m : Nat → Nat) (k : Nat) : List Int := match k with
  | 0 => []
  | k + 1 => upB (5 * k) (m k)
def allF (m : Nat → Nat) : Nat → List Int
  | 0 => []
  | k + 1 => allF m k ++ upB (5 * k) (m k)
theorem allF_mem {m : Nat → Nat} (hm : ∀ k, m k ≤ 5) {x : Int} : ∀ {i : Nat}, x ∈ allF m i → 0 ≤ x ∧ x < 5 * i
  | 0, h => (by cases h)
  | i + 1, h => by
    rcases List.mem_append.1 h with h | h
    · have := allF_mem hm h
      omega
    · have := upB_mem.1 h
      have := hm i
      omega
theorem allF_len {m : Nat → Nat} (hm : ∀ k, m k ≤ 5) : ∀ i : Nat, (allF m i).length ≤ 5 * i
  | 0 => Nat.zero_le _
  | i + 1 => by
    show (allF m i ++ upB (5 * i) (m i)).length ≤ _
    rw [List.length_append, upB_length]
    have := allF_len hm i
    have := hm i
    omega
theorem Gb.congr2 {n N T : Nat} {all : List Int} {q q' : Nat → BPr} {s : BSt} {hs hs' : Nat → List Int} {bx fs : List Int} (h : Gb n N T all q s hs bx fs) (e : ∀ j, j < N → q' j = q j) (e2 : ∀ j, j < N → hs' j = hs j) : Gb n N T all q' s hs' bx fs :=
  ⟨h.ok, h.cb, h.cf, fun a => by rw [allB_congr N e2]; exact h.cnt a, h.one, h.rng, h.h0, h.h1, fun j hj => by rw [e j hj, e2 j hj]; exact h.wk j hj, h.dead, h.fit⟩
theorem gbF {D : Nat} {m : Nat → Nat} (hm : ∀ k, m k ≤ 5) (kk : Int) : ∀ i, i ≤ 4 → Gb 20 (i + 1) 0 (allF m i) (qsF D m) ⟨List.replicate (2 + 2 * 20) 0, kk, [], []⟩ (hsF m) [] []
  | 0, _ => ((Gb.zero 20 kk).moreD D).congr2 (fun j hj => by obtain rfl : j = 0 := (by omega); rw [updF_same]; rfl) (fun j hj => by obtain rfl : j = 0 := (by omega); rw [updF_same]; rfl)
  | i + 1, h => by
    have ih := gbF (D := D) hm kk i (by omega)
    have hmi := hm i
    refine (ih.moreP (c := upB (5 * i) (m i)) (upB_nodup _ _) (fun a ha => ?_) (fun a ha hb => ?_)).congr2 (fun j hj => ?_) (fun j hj => ?_)
    · have := upB_mem.1 ha
      omega
    · have h1 := upB_mem.1 ha
      have h2 := allF_mem hm hb
      omega
    · by_cases e : j = i + 1
      · subst e; rw [updF_same]; rfl
      · rw [updF_ne _ _ e]
    · by_cases e : j = i + 1
      · subst e; rw [updF_same]; rfl
      · rw [updF_ne _ _ e]
theorem Tk9.congr {P : BP} {r N : Nat} {ts : Nat → Nat} {qs qs' : Nat → BPr} {tv : Value} {W : World} (h : Tk9 P r N ts qs tv W) (e : ∀ k, k < N → qs' k = qs k) : Tk9 P r N ts qs' tv W :=
  ⟨fun k hk => by rw [e k hk]; exact h.tk k hk, h.inj, h.tv⟩
theorem bStep_n (n : Nat) (q : BPr) (s : BSt) : (bStep n q s).1.n ≤ q.n := by
  have ed : ∀ m x (s' : BSt), (eachD m x s').1.n ≤ m := fun m x s' => by
    unfold eachD
    split
    · cases m with
      | zero => exact Nat.le_refl _
      | succ m => exact Nat.le_succ m
    · exact Nat.le_refl _
  have sp : ∀ l : List Int, (startP l).n = 0 := fun l => by cases l <;> rfl
  obtain ⟨m, ql, qn⟩ := q
  cases m with
  | done => exact Nat.le_refl _
  | pR => unfold bStep; dsimp only; split <;> exact Nat.le_refl _
  | pD o => unfold bStep; dsimp only; split <;> exact Nat.le_refl _
  | pN o => exact Nat.le_refl _
  | pT o y => unfold bStep; dsimp only; split <;> exact Nat.le_refl _
  | pA i => exact Nat.le_refl _
  | pB i o => exact Nat.le_refl _
  | pC i o => unfold bStep; dsimp only; split <;> exact Nat.le_refl _
  | pS o => exact Nat.le_refl _
  | pU o =>
    unfold bStep
    dsimp only
    split
    · rw [sp]; exact Nat.zero_le _
    · exact Nat.le_refl _
  | dR =>
    unfold bStep
    dsimp only
    split
    · exact ed _ _ _
    · exact Nat.le_refl _
  | dT o =>
    unfold bStep
    dsimp only
    split
    · exact ed _ _ _
    · exact Nat.le_refl _
  | eN i => exact Nat.le_refl _
  | eI x => exact ed _ _ _
/-- how many drains are left. -/
def FewD (q : Nat → BPr) (_ : BSt) (_ : Nat → List Int) (_ _ : List Int) : Prop := ∀ i, (q i).n ≤ 10
theorem fewD_keeps (n N : Nat) (all : List Int) (j : Nat) : Keeps n N all j FewD := by
  intro T q s hs bx fs c' bx' fs' _ hi _ _ _ i
  by_cases e : i = j
  · subst e
    rw [updF_same]
    exact Nat.le_trans (bStep_n n (q i) s) (hi i)
  · rw [updF_ne _ _ e]
    exact hi i
theorem keeps_and {n N j : Nat} {all : List Int} {I J : (Nat → BPr) → BSt → (Nat → List Int) → List Int → List Int → Prop} (h1 : Keeps n N all j I) (h2 : Keeps n N all j J) : Keeps n N all j (fun q s hs bx fs => I q s hs bx fs ∧ J q s hs bx fs) :=
  fun T q s hs bx fs c' bx' fs' a b c d e => ⟨h1 T q s hs bx fs c' bx' fs' a b.1 c d e, h2 T q s hs bx fs c' bx' fs' a b.2 c d e⟩
theorem qsF_few {D : Nat} {m : Nat → Nat} (hD : D ≤ 10) : ∀ i, (qsF D m i).n ≤ 10
  | 0 => by
    show (startD D).n ≤ 10
    cases D with
    | zero => exact Nat.zero_le _
    | succ D => show D ≤ 10; omega
  | i + 1 => by
    show (startP (upB (5 * i) (m i))).n ≤ 10
    have sp : ∀ l : List Int, (startP l).n = 0 := fun l => by cases l <;> rfl
    rw [sp]
    omega
/-- what a worker still has to do. -/
theorem Gb.rk_few {n N T : Nat} {all : List Int} {q : Nat → BPr} {s : BSt} {hs : Nat → List Int} {bx fs : List Int} (h : Gb n N T all q s hs bx fs) {j : Nat} (hj : j < N) (ha : all.length ≤ n) (hn : n ≤ 20) (hd : (q j).n ≤ 10) : rk (q j) s.l bx.length (hs j).length < 500 := by
  have h1 := h.rk_le hj ha
  have h2 : (hs j).length ≤ all.length := count_len _ fun a => by
    have := h.cnt a
    have := allB_ge (hs := hs) (j := j) a N hj
    omega
  have h3 : (q j).l.length ≤ (hs j).length := by
    have hw := h.wk j hj
    rcases hqj : q j with ⟨m, ql, qn⟩
    rw [hqj] at hw
    cases m with
    | done => rw [hw.2]; exact Nat.zero_le _
    | dR => rw [hw.2]; exact Nat.zero_le _
    | dT o => rw [hw.2.1]; exact Nat.zero_le _
    | eN i => rw [hw.2.1]; exact Nat.zero_le _
    | eI x => rw [hw.2]; exact Nat.zero_le _
    | pA i => rw [hw.1]; simp
    | pB i o => rw [hw.1]; simp
    | pC i o => rw [hw.1]; simp
    | pR => rw [hw.1]; exact Nat.le_refl _
    | pD o => rw [hw.1]; exact Nat.le_refl _
    | pN o => rw [hw.1]; exact Nat.le_refl _
    | pT o y => rw [hw.1]; exact Nat.le_refl _
    | pS o => rw [hw.1]; exact Nat.le_refl _
    | pU o => rw [hw.1]; exact Nat.le_refl _
  omega

/-- the drain's task is made, and those of i others. -/
structure Mk9 (w0 : World) (P : BP) (bx ba bn D : Nat) (m : Nat → Nat) (s0 : BSt) (i : Nat) (tv : Value) (W : World) : Prop where
  at_ : ∃ ts, Tk9 P 3000 (i + 1) ts (qsF D m) tv W
  si : BI P 3000 s0 W
  ctx : BCtx P bx ba bn W
  be : Below P.B w0 W
  nor : ∀ b, ¬ Rw P.ws W b
section
variable {w0 : World} {P : BP} {bx ba bn D i : Nat} {m : Nat → Nat} {s0 : BSt} {tv tv' v cv : Value} {W W1 W2 W4 : World}
theorem Mk9.puts (hG : P.Good) (hP : P.n = 20) (hx : P.ex = []) (h : Mk9 w0 P bx ba bn D m s0 i tv W) (hi4 : i < 4) (hm : ∀ k, m k ≤ 5) (t : Turns [] W W1) {B : Nat} (hr : IRow W1 B v (upB (5 * i) (m i))) : ∃ A cp, v = .slice A (m i) cp ∧ m i ≤ cp ∧ ∀ W2, Turns [] W1 W2 → (BM P).Makes 3000 (startP (upB (5 * i) (m i))) 30 #[bxP P #[ptr ba, ptr bn], .slice A (m i) cp, .nilFunc] W2 := by
  have hi1 := h.si.turns t (by simp)
  have hx1 := h.ctx.turns hG h.si t (by simp) (by simp)
  have hmi := hm i
  obtain ⟨A, cp, e, hle, hil⟩ := IL.of_irow hr hi1 (by rw [upB_length]; omega) (fun g _ => ⟨by rw [hx]; simp, fun q => h.nor g (BI.rows_turns hG h.si t (by simp) q)⟩)
  have hl := upB_length (5 * i) (m i)
  rw [hl] at e hle
  refine ⟨A, cp, e, hle, fun W2 t2 => ?_⟩
  have hp := puts_g hG (ba := ba) (bn := bn) 3000 (upB (5 * i) (m i)) (fun x hx => by have := upB_mem.1 hx; rw [hP]; omega) A cp W2 3000 s0 (by rw [hl]; exact hle) (hi1.turns t2 (by simp)) (hil.mv (((bm_ok P hG).okw _ _ _ hi1).mv (bm_ok P hG) t2)) (hx1.turns hG hi1 t2 (by simp) (by simp)).xa (hx1.turns hG hi1 t2 (by simp) (by simp)).xn
  rw [hl] at hp
  exact hp
theorem Mk9.next (hG : P.Good) (h : Mk9 w0 P bx ba bn D m s0 i tv W) (t : Turns [] W W2) (hc : (BM P).Code 3000 (startP (upB (5 * i) (m i))) cv W2) {ts : Nat → Nat} (hts : Tk9 P 3000 (i + 1) ts (qsF D m) tv W) (hv4 : VRow W4 P.B 35 tv' ((List.range (i + 1)).map (fun k => ptr (ts k)) ++ [ptr W2.heap.size])) (t4 : Turns tv.ownBlock.toList (W2.alloc (.cells #[cv, .int .i64 0] 89)) W4) : Mk9 w0 P bx ba bn D m s0 (i + 1) tv' W4 := by
  have hi2 := h.si.turns t (by simp)
  have ht2 := hts.turns hG h.si t
  obtain ⟨a1, a2, a3, a4⟩ := ht2.next hG hi2 hc t4 hv4
  have hK := ht2.isTask
  have hx2 := h.ctx.turns hG h.si t (by simp) (by simp)
  refine ⟨⟨_, a1.congr fun k hk => ?_⟩, a2, hx2.mv a3, (h.be.trans (t.below (by simp) ((bm_ok P hG).okw _ _ _ h.si).base)).trans (a4.below (fun b hb => (hK b hb).1) ((bm_ok P hG).okw _ _ _ hi2).base), fun b q => ?_⟩
  · by_cases e : k = i + 1
    · subst e; rw [updF_same]; rfl
    · rw [updF_ne _ _ e]
  · refine h.nor b (BI.rows_turns hG h.si t (by simp) (BI.rows_turns hG hi2 a4 (fun c hc hm => ?_) q))
    have hk := hK c hc
    rcases BP.L_mem.1 hm with rfl | rfl | rfl
    · exact hk.ne hi2.ar.head (by decide)
    · exact hk.ne hi2.ar.body (by decide)
    · obtain ⟨v, u, hl, _⟩ := hi2.ow
      exact hk.ne hl (by decide)
end

theorem index_four (az : Nat → Nat) (j : Nat) (hj : j < 4) (W : World) : (Instr.index 77 (.agg #[.int .u8 (az 0 : Nat), .int .u8 (az 1 : Nat), .int .u8 (az 2 : Nat), .int .u8 (az 3 : Nat)]) (.int .i64 (j : Int))).run Try.prog W = .ok (.int .u8 (az j : Nat)) W := by
  rcases (by omega : j = 0 ∨ j = 1 ∨ j = 2 ∨ j = 3) with rfl | rfl | rfl | rfl <;> rfl

section
variable {St Pr : Type} {M : Gm St Pr}
theorem Gm.All.down (hM : M.Ok) {m m' N : Nat} {ts : Nat → Nat} {c : Cfg St Pr} {W : World} (h : M.All m N ts c W) (k : m' ≤ m) : M.All m' N ts c W := by
  obtain ⟨d, rfl⟩ : ∃ d, m = m' + d := ⟨m - m', by omega⟩
  clear k
  induction d with
  | zero => exact h
  | succ d ih => exact ih (h.less hM)
end

/-- tasks are finished, one by one: k of them are, those of S. -/
structure Fn9 (w0 : World) (P : BP) (bx ba bn : Nat) (all : List Int) (I : (Nat → BPr) → BSt → (Nat → List Int) → List Int → List Int → Prop) (ts : Nat → Nat) (tv : Value) (S : Nat → Prop) (k : Nat) (W : World) : Prop where
  at_ : ∃ c T hs b fs, (BM P).All (2600 - 501 * k) 5 ts c W ∧ Gb 20 5 T all c.q c.s hs b fs ∧ (I c.q c.s hs b fs ∧ FewD c.q c.s hs b fs) ∧ T ≤ 1000 + 500 * k ∧ (∀ i, i < 5 → S i → (c.q i).m = .done) ∧ ∀ i, i < 5 → c.d i ≤ 1000 + 501 * k
  inj : ∀ i j, i < 5 → j < 5 → ts i = ts j → i = j
  tv : VRow W P.B 35 tv ((List.range 5).map fun k => ptr (ts k))
  ctx : BCtx P bx ba bn W
  be : Below P.B w0 W
theorem VRow.frTasks {P : BP} {r N : Nat} {s : BSt} {ts : Nat → Nat} {E : TypeId} {v : Value} {vs : List Value} {W W' : World} (x : VRow W P.B E v vs) (hi : BI P r s W) (ht : ∀ i, i < N → ∃ cs, Lies W (ts i) 89 cs) (f : Fr (tsL N ts ++ P.L) P.ws W W') (h1 : E ≠ 101) (h2 : E ≠ 111) (h3 : E ≠ 72) (h4 : E ≠ 3) (h5 : E ≠ 89) : VRow W' P.B E v vs :=
  x.kept fun g hg => by
    obtain ⟨_, cur, hl⟩ := x.lies hg
    have h := hi.apart_ty hl h1 h2 h3 h4
    refine f.block g hl.lt (fun hm => (List.mem_append.1 hm).elim (fun q => ?_) h.1) h.2
    obtain ⟨i, hi, e⟩ := tsL_mem.1 q
    obtain ⟨cs, hcs⟩ := ht i hi
    exact hl.unlike hcs h5 e.symm
theorem All.low {P : BP} {m N : Nat} {ts : Nat → Nat} {c : Cfg BSt BPr} {W W' : World} (hG : P.Good) (h : (BM P).All m N ts c W) (f : Fr (tsL N ts ++ P.L) P.ws W W') : Below P.B W W' :=
  BI.below hG h.inv (fun b hb => (List.mem_append.1 hb).elim (fun q => by
    obtain ⟨i, hi, rfl⟩ := tsL_mem.1 q
    exact .inr (h.tk i hi).base) .inl) f
theorem All.lies {P : BP} {m N : Nat} {ts : Nat → Nat} {c : Cfg BSt BPr} {W : World} (h : (BM P).All m N ts c W) : ∀ i, i < N → ∃ cs, Lies W (ts i) 89 cs := fun i hi => by
  obtain ⟨v, hv, _⟩ := (h.tk i hi).at_
  exact ⟨_, hv⟩
section
variable {w0 : World} {P : BP} {bx ba bn k : Nat} {all : List Int} {I : (Nat → BPr) → BSt → (Nat → List Int) → List Int → List Int → Prop} {ts : Nat → Nat} {tv : Value} {S S' : Nat → Prop} {W : World}
theorem Fn9.next (hG : P.Good) (hP : P.n = 20) (ha : all.length ≤ 20) (hI : ∀ j, j < 5 → Keeps 20 5 all j I) (h : Fn9 w0 P bx ba bn all I ts tv S k W) (hk : k < 5) {j : Nat} (hj : j < 5) (hS : ∀ i, S' i → S i ∨ i = j) :
    Calls Try.prog 18 #[ptr (ts j), .int .i64 3000] W fun e w' => e = .returned (.bool true) ∧ Fn9 w0 P bx ba bn all I ts tv S' (k + 1) w' := by
  obtain ⟨c, T, hs, b, fs, hall, hgb, hi, hT, hS0, hd⟩ := h.at_
  have hM := bm_ok P hG
  have hrk := hgb.rk_few hj ha (Nat.le_refl _) (hi.2 j)
  have hKK := keeps_and (hI j hj) (fewD_keeps 20 5 all j)
  obtain ⟨q', hs', bx', fs', g1, g2, g3, g4, g5, _, g7⟩ := Gb.ends (P := P) hP hj (by omega) hKK hgb hi (c.d j) 500 (by omega) hrk
  have hdj := hd j hj
  have eq : updF c.q j ((BM P).runN (c.q j) c.s (c.d j) 500).1 = q' := funext fun i => by
    by_cases e : i = j
    · subst e; rw [updF_same, g3]
    · rw [updF_ne _ _ e, (g4 i e).1]
  refine (hall.fin hM h.inj hj 3000 (m0 := 500) (by omega) (by omega) (by omega) g5 (fun i hi' _ => hgb.w_alone hP (by omega) hj (c.d j) i (by omega)) (by omega)).mono ?_
  rintro e w' ⟨rfl, a1, a2, a3⟩
  have hdd := runN_dle (M := BM P) (q := c.q j) (s := c.s) (d := c.d j) 500
  rw [eq] at a1
  refine ⟨rfl, ⟨⟨_, T + 500, hs', bx', fs', a1.down hM (by omega), g1, g2, by omega, fun i hi5 hSi => ?_, fun i hi5 => ?_⟩, h.inj, h.tv.frTasks hall.inv (All.lies hall) a2 (by decide) (by decide) (by decide) (by decide) (by decide), h.ctx.mv a3, h.be.trans (All.low hG hall a2)⟩⟩
  · show (q' i).m = .done
    rcases hS i hSi with h1 | h1
    · by_cases e : i = j
      · subst e; exact g7
      · rw [(g4 i e).1]; exact hS0 i hi5 h1
    · subst h1; exact g7
  · show updF c.d j _ i ≤ _
    have := hd i hi5
    by_cases e : i = j
    · subst e; rw [updF_same]; omega
    · rw [updF_ne _ _ e]; omega
theorem Fn9.cell (h : Fn9 w0 P bx ba bn all I ts tv S k W) {A : Option Addr} {n cp : Nat} (e : tv = .slice A n cp) : n = 5 ∧ ∃ g, A = some ⟨g, 0, none⟩ ∧ ∀ j, j < 5 → W.cell? ⟨g, j, none⟩ = some (ptr (ts j)) := by
  obtain ⟨A', cp', h1, _, h2⟩ := h.tv.slice
  have hl : ((List.range 5).map fun i => ptr (ts i)).length = 5 := by simp
  rw [hl] at h1 h2
  rw [e] at h1
  injection h1 with h1 h3 _
  subst h1
  obtain ⟨g, h4, _, h5⟩ := h2 (by omega)
  exact ⟨h3, g, h4, fun j hj => h5 j _ (by simp [hj])⟩
end

end Go.Proofs.Ythkklcmmbpffiaa

/- Layer 8: the document's Pop and Push. -/
namespace Go.Proofs.Ythkklcmmbpffiaa
open Go.RowKit
set_option maxRecDepth 100000

theorem Row.tail1 {w : World} {A : Option Addr} {n cp : Nat} {x : Int} {xs : List Int} (h : Row w .i64 A (n + 1) (x :: xs)) (hc : n + 1 ≤ cp) : Row w .i64 (tailO A cp) n xs := by
  refine ⟨by have := h.len; simp at this; exact this, by have := h.most; omega, fun y hy => h.wf y (by simp [hy]), fun hn => ?_⟩
  obtain ⟨a, rfl, hab, hcell⟩ := h.at_ (by omega)
  refine ⟨a.add 1, by unfold tailO; rw [if_neg (by omega)]; rfl, by rw [add_block]; exact hab, fun i hi => ?_⟩
  have := hcell (i + 1) (by omega)
  rw [Go.Deep.add_add, show 1 + i = i + 1 by omega, this]
  simp

theorem refpop_none (A : Option Addr) (cp : Nat) (w : World) :
    Calls Try.prog 16 #[.slice A 0 cp] w fun e w' => e = .returned (.tuple #[.slice A 0 cp, .int .i64 (-1), .bool false]) ∧ w' = w := by
  go_enter Try.func16, Try.ntmps16
  go_wp2
  go_ret3
  exact ⟨rfl, rfl⟩
theorem refpop_some (A : Option Addr) (n cp : Nat) (x : Int) (xs : List Int) (w : World) (h : Row w .i64 A (n + 1) (x :: xs)) (hn : n ≤ 100000) :
    Calls Try.prog 16 #[.slice A (n + 1) cp] w fun e w' => e = .returned (.tuple #[.slice (tailO A cp) n (cp - 1), .int .i64 x, .bool true]) ∧ w' = w.drew := by
  obtain ⟨a, rfl, hab, hcell⟩ := h.at_ (by omega)
  have hc0 := hcell 0 (by omega)
  have e0 : a.add 0 = a := by simp [Addr.add]
  simp only [List.getD_cons_zero, e0] at hc0
  clear e0
  have hsl := slice_tail1 (t := 31) (e := 3) Try.underlying31 (by kernel_rfl) (some a) (n + 1) cp (by omega)
  rw [Nat.add_sub_cancel] at hsl
  have hn1 : ¬ ((n : Int) + 1 = 0) := by omega
  clear hcell h
  go_enter Try.func16, Try.ntmps16
  go_wp2_with fail
  go_region
  go_wp2
  go_ret3
  exact ⟨rfl, rfl⟩
theorem refpush_any (A : Option Addr) (n cp : Nat) (i : Int) (xs : List Int) (w : World) (h : Row w .i64 A n xs) (hi : (Lit.int .i64 i).wf = true) (hn : n ≤ 10000) :
    Calls Try.prog 17 #[.slice A n cp, .int .i64 i] w fun e w' => ∃ v, e = .returned v ∧ IRow w' w.heap.size v (i :: xs) ∧ Below w.heap.size w w' := by
  have hL := IRow.lit w (B := w.heap.size) [i] #[.int .i64 i] rfl (Nat.le_refl _) (Ints.one hi) (by simp)
  have k0 : Below w.heap.size w (w.alloc (.cells #[.int .i64 i] 3)) := (Below.refl _ _).alloc (Nat.le_refl _) _
  have hr := h.keep (Nat.le_refl _) k0
  rcases Nat.eq_zero_or_pos n with h0 | h0
  · subst h0
    have hxs : xs = [] := List.length_eq_zero_iff.1 h.len
    subst hxs
    obtain ⟨i0, hi0, _⟩ := info_parts int_info4
    clear h hr
    go_enter Try.func17, Try.ntmps17
    go_wp2_with (first | (at_builtin; refine wpList_irow_zero rfl (.tmp 6) (.tmp 7) 31 rfl 3 i0 Try.underlying31 hi0 _ 1 1 A 0 cp rfl (Nat.le_refl _) rfl rfl ?_) | fail)
    go_ret
    exact ⟨_, rfl, hL, k0⟩
  · clear h
    go_enter Try.func17, Try.ntmps17
    go_wp2_with (first | (at_builtin; refine wpList_irow hL (by simp) rfl (.tmp 6) (.tmp 7) rfl rfl rfl hr h0 (by simp; omega) ?_; intro v' w' r1 r2 _) | fail)
    go_ret
    exact ⟨_, rfl, r1, k0.trans r2⟩

end Go.Proofs.Ythkklcmmbpffiaa

/- The inbox: the document's Put. -/
namespace Go.Proofs.Ythkklcmmbpffiaa
open Go.RowKit
set_option maxRecDepth 100000

/-- 'append([]int{x}, l...)'. -/
theorem wpList_litapp {W : World} {A : Option Addr} {n c : Nat} {x : Int} {xs : List Int} {ops : Array Oper} {rest : List Oper} {o : Oper} {a : Act} {Q : Exit → Act → World → Prop} (hgd : o.guard = none) (s y : Operand) (ho : o.op = .call { callee := .builtin .append, args := #[s, y], argTypes := #[31, 31] })
    (hs : a.eval s = .slice (some ⟨W.heap.size, 0, none⟩) 1 1) (hy : a.eval y = .slice A n c) (hr : Row W .i64 A n xs) (hx : (Lit.int .i64 x).wf = true) (hl : n ≤ 10000)
    (hK : ∀ v' w', IRow w' W.heap.size v' (x :: xs) → Below W.heap.size W w' → wpList Try.prog ops Q rest (a.put o.dst v') w') : wpList Try.prog ops Q (o :: rest) a (W.alloc (.cells #[.int .i64 x] 3)) := by
  have hL := IRow.lit W (B := W.heap.size) [x] #[.int .i64 x] rfl (Nat.le_refl _) (Ints.one hx) (by simp)
  have k0 : Below W.heap.size W (W.alloc (.cells #[.int .i64 x] 3)) := (Below.refl _ _).alloc (Nat.le_refl _) _
  rcases Nat.eq_zero_or_pos n with h0 | h0
  · subst h0
    have hxs : xs = [] := List.length_eq_zero_iff.1 hr.len
    subst hxs
    obtain ⟨i0, hi0, _⟩ := info_parts int_info4
    exact wpList_irow_zero hgd s y 31 ho 3 i0 Try.underlying31 hi0 ⟨W.heap.size, 0, none⟩ 1 1 A 0 c rfl (Nat.le_refl _) hs hy (hK _ _ hL k0)
  · exact wpList_irow hL (by simp) hgd s y ho hs hy (hr.keep (Nat.le_refl _) k0) h0 (by simp; omega) (fun v' w' r1 r2 _ => hK _ _ r1 (k0.trans r2))

/-- a slice that can be read: it is the one of old, or was made since. -/
structure Rd (w0 : World) (v0 : Value) (xs0 : List Int) (v : Value) (xs : List Int) (W : World) : Prop where
  at_ : ∃ A c, v = .slice A xs.length c ∧ Row W .i64 A xs.length xs
  old : (v = v0 ∧ xs = xs0) ∨ IRow W w0.heap.size v xs
  be : Below w0.heap.size w0 W

/-- in the document's loop: what is left of the tickets, what is free. -/
structure Pl (w : World) (d : Int → Bool) (xs fs : List Int) (fv0 lv fv : Value) (n : Nat) (W : World) : Prop where
  l : ∃ ys zs, ys.length = n ∧ helpL d ys zs = helpL d xs fs ∧ (∃ A c, lv = .slice A n c ∧ n ≤ c ∧ Row w .i64 A n ys) ∧ Rd w fv0 fs fv zs W ∧ (∀ y, y ∈ ys → 0 ≤ y ∧ y < 20) ∧ zs.length + ys.length ≤ 100

set_option maxHeartbeats 1000000 in
theorem refput9 (A B : Option Addr) (n m cl cf cd db : Nat) (xs fs : List Int) (t : Int) (d : Int → Bool) (w : World) (hx : Row w .i64 A n xs) (hcl : n ≤ cl) (hf : Row w .i64 B m fs) (hd : db < w.heap.size) (hdc : ∀ i : Nat, i < 20 → w.cell? ⟨db, i, none⟩ = some (.bool (d i))) (hr : ∀ y, y ∈ xs → 0 ≤ y ∧ y < 20) (hlen : fs.length + xs.length ≤ 100) (ht : (Lit.int .i64 t).wf = true) :
    Calls Try.prog 29 #[.slice A n cl, .slice B m cf, .int .i64 t, .slice (some ⟨db, 0, none⟩) 20 cd] w fun e w' => ∃ v1 v2, e = .returned (.tuple #[v1, v2]) ∧ IRow w' w.heap.size v1 (t :: (helpL d xs fs).1) ∧ Rd w (.slice B m cf) fs v2 (helpL d xs fs).2 w' := by
  have h0 : Pl w d xs fs (.slice B m cf) (.slice A n cl) (.slice B m cf) n w := by
    have h1 := hx.len
    have h2 := hf.len
    subst h2
    exact ⟨xs, fs, h1, rfl, ⟨A, cl, rfl, hcl, hx⟩, ⟨⟨B, cf, rfl, hf⟩, .inl ⟨rfl, rfl⟩, Below.refl _ _⟩, hr, hlen⟩
  have HD := Lib.hid (And.intro hd hdc)
  clear hx hf hd hdc hr hlen hcl
  go_enter Try.func29, Try.ntmps29
  go_wp2_with fail
  go_loopw [0, 1] (fun lv fv W => ∃ k, Pl w d xs fs (.slice B m cf) lv fv k W) (fun lv _ _ => match lv with | .slice _ k _ => k | _ => 0)
  case atStart => exact ⟨_, h0⟩
  case round =>
    clear h0
    obtain ⟨k, ys, zs, hyl, hh, ⟨A', c', rfl, hc', hry⟩, hrd, hyr, hln⟩ := hrel
    generalize wr = W at *
    generalize u1 = fv at *
    obtain ⟨⟨B', cf', rfl, hrz⟩, hold, hbe⟩ := hrd
    obtain ⟨hd, hdc⟩ := HD.out
    have hryW := hry.keep (Nat.le_refl _) hbe
    have hzl : zs.length ≤ 100 := by omega
    cases ys with
    | nil =>
      obtain rfl : k = 0 := by simpa using hyl.symm
      have e1 : helpL d xs fs = ([], zs) := hh.symm
      have F : ∀ v w', IRow w' W.heap.size v [t] → Below W.heap.size W w' → IRow w' w.heap.size v (t :: (helpL d xs fs).1) ∧ Rd w (.slice B m cf) fs (.slice B' zs.length cf') (helpL d xs fs).2 w' := fun v w' r b => by
        rw [e1]
        exact ⟨r.less hbe.size, ⟨⟨B', cf', rfl, hrz.keep (Nat.le_refl _) b⟩, hold.imp id fun h => h.below b (Nat.le_refl _), hbe.trans (b.mono hbe.size)⟩⟩
      have HF := Lib.hid F
      clear F hold hrz hh hdc hry hyr e1
      generalize zs.length = Lz at *
      go_wp2_with (first | (at_builtin; refine wpList_litapp rfl (.tmp 30) (.tmp 31) rfl rfl rfl hryW ht (by omega) ?_; intro v' w' r1 r2) | fail)
      go_ret2
      exact ⟨_, _, rfl, HF.out _ _ r1 r2⟩
    | cons y ys =>
      obtain ⟨k, rfl⟩ : ∃ k', k = k' + 1 := ⟨k - 1, by simp at hyl; omega⟩
      have hyl2 : ys.length = k := by simpa using hyl
      obtain ⟨a, rfl, hab, hcell⟩ := hryW.at_ (by omega)
      have hc0 := hcell 0 (by omega)
      have e0 : a.add 0 = a := by simp [Addr.add]
      simp only [List.getD_cons_zero, e0] at hc0
      have hyb := hyr y (by simp)
      obtain ⟨q, rfl⟩ := Int.eq_ofNat_of_zero_le hyb.1
      have hq20 : q < 20 := by omega
      have hdq := (hbe.cell (p := ⟨db, q, none⟩) hd).trans (hdc q hq20)
      have hql : (q : Int) < 20 := by omega
      have hk1 : (0 : Int) < (k : Int) + 1 := by omega
      cases hdd : d (q : Int) with
      | false =>
        rw [hdd] at hdq
        have e1 : helpL d xs fs = ((q : Int) :: ys, zs) := by rw [← hh]; show (if d (q : Int) = true then _ else _) = _; rw [if_neg (by rw [hdd]; simp)]
        have F : ∀ v w', IRow w' W.heap.size v (t :: (q : Int) :: ys) → Below W.heap.size W w' → IRow w' w.heap.size v (t :: (helpL d xs fs).1) ∧ Rd w (.slice B m cf) fs (.slice B' zs.length cf') (helpL d xs fs).2 w' := fun v w' r b => by
          rw [e1]
          exact ⟨r.less hbe.size, ⟨⟨B', cf', rfl, hrz.keep (Nat.le_refl _) b⟩, hold.imp id fun h => h.below b (Nat.le_refl _), hbe.trans (b.mono hbe.size)⟩⟩
        have HF := Lib.hid F
        clear F hold hrz hh hdc hry hyr hcell hdd e1 e0
        generalize zs.length = Lz at *
        go_wp2_with (first | (at_builtin; refine wpList_litapp rfl (.tmp 30) (.tmp 31) rfl rfl rfl hryW ht (by omega) ?_; intro v' w' r1 r2) | fail)
        go_ret2
        exact ⟨_, _, rfl, HF.out _ _ r1 r2⟩
      | true =>
        rw [hdd] at hdq
        have hsl := slice_tail1 (t := 31) (e := 3) Try.underlying31 (by kernel_rfl) (some a) (k + 1) c' (by omega)
        rw [Nat.add_sub_cancel] at hsl
        have hwq : (Lit.int .i64 (q : Int)).wf = true := WalkArith.wf_i64 (by omega)
        have F : ∀ v w', IRow w' W.heap.size v ((q : Int) :: zs) → Below W.heap.size W w' → Pl w d xs fs (.slice B m cf) (.slice (tailO (some a) c') k (c' - 1)) v k w' := fun v w' r b => by
          obtain ⟨Av, cv, e2, hv2⟩ := r.row
          refine ⟨ys, (q : Int) :: zs, hyl2, ?_, ⟨_, _, rfl, by omega, Row.tail1 hry hc'⟩, ⟨⟨Av, cv, e2, hv2⟩, .inr (r.less hbe.size), hbe.trans (b.mono hbe.size)⟩, fun y hy => hyr y (by simp [hy]), by simp at hln ⊢; omega⟩
          rw [← hh]
          show _ = (if d (q : Int) = true then _ else _)
          rw [if_pos hdd]
        have HF := Lib.hid F
        clear F hold hh hdc hry hyr hcell hdd e0 hryW
        generalize zs.length = Lz at *
        go_wp2_with (first | (at_builtin; refine wpList_litapp rfl (.tmp 24) (.tmp 25) rfl rfl rfl hrz hwq (by omega) ?_; intro v' w' r1 r2) | fail)
        go_roundw
        case rel => exact ⟨k, HF.out _ _ r1 r2⟩
        case measure => simp

end Go.Proofs.Ythkklcmmbpffiaa

/- Layer 8: what a worker alone does to the stack. -/
namespace Go.Proofs.Ythkklcmmbpffiaa
open Go.RowKit
set_option maxRecDepth 100000

/-- from x on these things follow. -/
def Ch (l : List Int) : Int → List Int → Prop
  | x, [] => x = -1
  | x, i :: is => x = i ∧ 0 ≤ i ∧ Ch l (nxOf (getA l (i + 1))) is
theorem Ch.told {l : List Int} : ∀ {ts : List Int} {x : Int} {n : Nat}, Ch l x ts → (∀ i, i ∈ ts → getA l (i + 1) ≤ 4294967295) → ts.length ≤ n → chL l (fun i => i + 1) n x = ts
  | [], x, n, h, _, _ => by
    have h : x = -1 := h
    rw [h, chL_stop]
  | i :: is, x, n, h, hb, hn => by
    obtain ⟨rfl, h1, h2⟩ := h
    obtain ⟨m, rfl⟩ : ∃ m, n = m + 1 := ⟨n - 1, by simp at hn; omega⟩
    show (if x = -1 then [] else x :: chL l (fun i => i + 1) m (lkd (getA l (x + 1)))) = _
    rw [if_neg (by omega), lkd_nx (hb x (by simp)), Ch.told h2 (fun y hy => hb y (by simp [hy])) (by simp at hn; omega)]
/-- other cells than the links of these were written. -/
theorem Ch.keep {l l' : List Int} : ∀ {ts : List Int} {x : Int}, Ch l x ts → (∀ i, i ∈ ts → getA l' (i + 1) = getA l (i + 1)) → Ch l' x ts
  | [], _, h, _ => h
  | i :: is, _, h, k => ⟨h.1, h.2.1, by
    rw [k i (by simp)]
    exact Ch.keep h.2.2 fun y hy => k y (by simp [hy])⟩

/-- a worker alone: what lies on the stack; with what is in hand these are all things. -/
structure One (n : Nat) (l hs ts : List Int) : Prop where
  ok : SOk n l
  ch : Ch l (hIx (getA l 0)) ts
  all : (ts ++ hs).Perm ((List.range n).map fun i : Nat => (i : Int))

section
variable {n : Nat} {l hs ts : List Int}
theorem One.len (h : One n l hs ts) : ts.length + hs.length = n := by
  have := h.all.length_eq
  simpa using this
theorem One.mem (h : One n l hs ts) {i : Int} (hi : i ∈ ts ∨ i ∈ hs) : 0 ≤ i ∧ i < n := by
  have := h.all.subset (List.mem_append.2 hi)
  obtain ⟨m, hm, rfl⟩ := List.mem_map.1 this
  have := List.mem_range.1 hm
  omega
theorem One.nodup (h : One n l hs ts) : (ts ++ hs).Nodup := h.all.nodup_iff.2 (by
  refine List.pairwise_map.2 (List.nodup_range.imp fun {a b} hne e => hne ?_)
  have e : (a : Int) = b := e
  omega)
theorem One.told (h : One n l hs ts) (hn : n ≤ 1000) : chL l (fun i => i + 1) l.length (hIx (getA l 0)) = ts := h.ch.told (fun i hi => by
  have h1 := h.mem (.inl hi)
  obtain ⟨j, rfl⟩ := Int.eq_ofNat_of_zero_le h1.1
  have := h.ok.link j (by omega)
  omega) (by
  have h1 := h.len
  have h2 := h.ok.len
  omega)
/-- List tells what lies there. -/
theorem One.dom (h : SOk n l) (hf : ∀ i, N64 (getA l i)) (hn : n ≤ 1000) : (hIx (getA l 0) = -1 ∨ (0 ≤ hIx (getA l 0) ∧ hIx (getA l 0) < n)) ∧ ∀ i : Int, 0 ≤ i ∧ i < n → lkd (getA l (i + 1)) = -1 ∨ (0 ≤ lkd (getA l (i + 1)) ∧ lkd (getA l (i + 1)) < n) := by
  refine ⟨?_, fun i hi => ?_⟩
  · have h1 := hIx_in (v := getA l 0)
    have h2 := h.head.2
    unfold Ix0 at h1
    omega
  · obtain ⟨j, rfl⟩ := Int.eq_ofNat_of_zero_le hi.1
    have h1 := h.link j (by omega)
    unfold lkd
    rw [if_neg (by omega)]
    have h2 := hf ((j : Int) + 1)
    unfold N64 at h2
    omega
theorem One.has (h : One n l hs ts) : hasA l 0 = true := by
  have := h.ok.len
  rw [hasA_iff]
  omega

/-- the first thing is taken off. -/
theorem One.pop {i : Int} (h : One n l hs (i :: ts)) (hn : n ≤ 1000) : One n (casA l 0 (getA l 0) (newH (getA l 0) (nxOf (getA l (i + 1))))) (hs ++ [i]) ts := by
  obtain ⟨h1, h2, h3⟩ := h.ch
  have hb : casB l 0 (getA l 0) = true := by simp [casB, h.has]
  have hx : nxOf (getA l (i + 1)) = -1 ∨ (0 ≤ nxOf (getA l (i + 1)) ∧ nxOf (getA l (i + 1)) < n) := by
    cases ts with
    | nil => exact .inl h3
    | cons y ys =>
      right
      rw [h3.1]
      exact h.mem (.inl (by simp))
  have h0 : Ix0 (nxOf (getA l (i + 1))) := by unfold Ix0; omega
  have hl : ∀ y : Int, 0 ≤ y → getA (casA l 0 (getA l 0) (newH (getA l 0) (nxOf (getA l (i + 1))))) (y + 1) = getA l (y + 1) := fun y hy => by rw [getA_casA, if_neg (by omega)]
  refine ⟨h.ok.turn h0 (by omega), ?_, ?_⟩
  · rw [getA_casA, if_pos ⟨rfl, hb⟩, hIx_newH h0]
    exact h3.keep fun y hy => hl y (h.mem (.inl (by simp [hy]))).1
  · refine List.Perm.trans ?_ h.all
    rw [← List.append_assoc]
    exact (List.perm_append_singleton i (ts ++ hs))
/-- what is in hand is put on. -/
theorem One.push {i : Int} (h : One n l (hs ++ [i]) ts) (hn : n ≤ 1000) : One n (casA (setA l (i + 1) (hIx (getA l 0) + 1)) 0 (getA l 0) (newH (getA l 0) i)) hs (i :: ts) := by
  have hi := h.mem (i := i) (.inr (by simp))
  have hnd := h.nodup
  have hni : i ∉ ts := fun hm => by
    rw [List.nodup_append] at hnd
    exact hnd.2.2 i hm i (by simp) rfl
  have hxn := h.ok.head.2
  have hix := hIx_in (v := getA l 0)
  have h0 : getA (setA l (i + 1) (hIx (getA l 0) + 1)) 0 = getA l 0 := by rw [getA_setA, if_neg (by omega)]
  have hh : hasA (setA l (i + 1) (hIx (getA l 0) + 1)) 0 = true := by
    have := h.ok.len
    rw [hasA_iff, setA_length]
    omega
  have hb : casB (setA l (i + 1) (hIx (getA l 0) + 1)) 0 (getA l 0) = true := by simp [casB, hh, h0]
  have hi1 : hasA l (i + 1) = true := by
    have := h.ok.len
    rw [hasA_iff]
    omega
  have i0 : Ix0 i := by unfold Ix0; omega
  have hl : getA (casA (setA l (i + 1) (hIx (getA l 0) + 1)) 0 (getA l 0) (newH (getA l 0) i)) (i + 1) = hIx (getA l 0) + 1 := by
    rw [getA_casA, if_neg (by omega), getA_setA, if_pos ⟨rfl, hi1⟩]
  have hnx : nxOf (hIx (getA l 0) + 1) = hIx (getA l 0) := by
    unfold Ix0 at hix
    unfold nxOf
    rw [if_neg (by omega)]
    omega
  refine ⟨(h.ok.lay hxn hi.1).turn i0 hi.2, ?_, ?_⟩
  · rw [getA_casA, if_pos ⟨rfl, hb⟩, hIx_newH i0]
    refine ⟨rfl, hi.1, ?_⟩
    rw [hl, hnx]
    refine h.ch.keep fun y hy => ?_
    have hyi : y ≠ i := fun e => hni (e ▸ hy)
    have hy0 := (h.mem (.inl hy)).1
    rw [getA_casA, if_neg (by omega), getA_setA, if_neg (by omega)]
  · refine List.Perm.trans ?_ h.all
    rw [← List.append_assoc]
    exact (List.perm_append_singleton i (ts ++ hs)).symm
end

end Go.Proofs.Ythkklcmmbpffiaa

/- Layer 8: a worker alone, act by act. -/
namespace Go.Proofs.Ythkklcmmbpffiaa
open Go.RowKit
set_option maxRecDepth 100000

section
variable {St Pr : Type} {M : Gm St Pr}
theorem go_end {x : Pr × St} (h : M.ended x.1 = true) : ∀ n, M.go n x = x
  | 0 => rfl
  | n + 1 => by simp [Gm.go, h]
theorem go_one {x : Pr × St} (h : M.ended x.1 = false) (n : Nat) : M.go (n + 1) x = M.go n (M.step x.1 x.2) := by simp [Gm.go, h]
theorem go_add (b : Nat) : ∀ (a : Nat) (x : Pr × St), M.go (a + b) x = M.go b (M.go a x)
  | 0, x => by rw [Nat.zero_add]; rfl
  | a + 1, x => by
    rw [show a + 1 + b = (a + b) + 1 by omega]
    cases h : M.ended x.1 with
    | true => rw [go_end h, go_end h, go_end h]
    | false => rw [go_one h, go_one h, go_add b a]
end

section
variable {P : SP} {s : SSt} {j n : Nat} {l : List Bool} {i : Int} {hs ts : List Int}

theorem pop_one (hn : n ≤ 1000) (h : One n s.l (s.hs j) (i :: ts)) : ∃ s', (SM P).go 3 (⟨j, .popR, l⟩, s) = startS j l s' ∧ One n s'.l (s'.hs j) ts ∧ s'.hs j = s.hs j ++ [i] ∧ s'.wr j = s.wr j := by
  obtain ⟨h1, h2, h3⟩ := h.ch
  have hb : casB s.l 0 (getA s.l 0) = true := by simp [casB, h.has]
  refine ⟨({ s with l := casA s.l 0 (getA s.l 0) (newH (getA s.l 0) (nxOf (getA s.l (hIx (getA s.l 0) + 1)))), k := moreA s.l 0 (moreA s.l (hIx (getA s.l 0) + 1) (moreA s.l 0 s.k)) } : SSt).popped (P.has j) j (hIx (getA s.l 0)) true, ?_, ?_, ?_, ?_⟩
  · rw [go_one rfl 2]
    show (SM P).go 2 (if hIx (getA s.l 0) = -1 then _ else (⟨j, .popN (getA s.l 0), l⟩, { s with k := moreA s.l 0 s.k })) = _
    rw [if_neg (by omega), go_one rfl 1]
    show (SM P).go 1 (⟨j, .popT (getA s.l 0) (nxOf (getA s.l (hIx (getA s.l 0) + 1))), l⟩, _) = _
    rw [go_one rfl 0]
    show (SM P).go 0 (if casB s.l 0 (getA s.l 0) = true then _ else _) = _
    rw [if_pos hb]
    rfl
  · have h4 := h.pop hn
    show One n (casA s.l 0 (getA s.l 0) (newH (getA s.l 0) (nxOf (getA s.l (hIx (getA s.l 0) + 1))))) (updF s.hs j (s.hs j ++ [hIx (getA s.l 0)]) j) ts
    rw [updF_same, h1]
    exact h4
  · show updF s.hs j (s.hs j ++ [hIx (getA s.l 0)]) j = _
    rw [updF_same, h1]
  · show updF s.wr j (s.wr j || (!true && !s.ba j) || (true != decide (0 ≤ hIx (getA s.l 0)))) j = _
    rw [updF_same, decide_eq_true (by omega)]
    simp
theorem pop_none (h : One n s.l (s.hs j) []) : ∃ s', (SM P).go 1 (⟨j, .popR, l⟩, s) = startS j l s' ∧ One n s'.l (s'.hs j) [] ∧ s'.hs j = s.hs j ∧ s'.wr j = (s.wr j || !s.ba j) := by
  have h1 : hIx (getA s.l 0) = -1 := h.ch
  refine ⟨({ s with k := moreA s.l 0 s.k } : SSt).popped (P.has j) j (-1) false, ?_, ?_, ?_, ?_⟩
  · rw [go_one rfl 0]
    show (SM P).go 0 (if hIx (getA s.l 0) = -1 then _ else _) = _
    rw [if_pos h1]
    rfl
  · exact h
  · rfl
  · show updF s.wr j (s.wr j || (!false && !s.ba j) || (false != decide (0 ≤ (-1 : Int)))) j = _
    rw [updF_same]
    simp
theorem push_one (hn : n ≤ 1000) (e : s.hs j = hs ++ [i]) (h : One n s.l (s.hs j) ts) : ∃ s', (SM P).go 3 (⟨j, .pushR i, l⟩, s) = startS j l s' ∧ One n s'.l (s'.hs j) (i :: ts) ∧ s'.hs j = hs ∧ s'.wr j = s.wr j := by
  rw [e] at h
  have hi := h.mem (i := i) (.inr (by simp))
  have hxn := hIx_in (v := getA s.l 0)
  have hb : casB (setA s.l (i + 1) (hIx (getA s.l 0) + 1)) 0 (getA s.l 0) = true := by
    have h0 : getA (setA s.l (i + 1) (hIx (getA s.l 0) + 1)) 0 = getA s.l 0 := by rw [getA_setA, if_neg (by omega)]
    have hh : hasA (setA s.l (i + 1) (hIx (getA s.l 0) + 1)) 0 = true := by
      have := h.ok.len
      rw [hasA_iff, setA_length]
      omega
    simp [casB, hh, h0]
  refine ⟨({ s with l := casA (setA s.l (i + 1) (hIx (getA s.l 0) + 1)) 0 (getA s.l 0) (newH (getA s.l 0) i), k := moreA (setA s.l (i + 1) (hIx (getA s.l 0) + 1)) 0 (moreA s.l (i + 1) (moreA s.l 0 s.k)) } : SSt).pushed j, ?_, ?_, ?_, rfl⟩
  · rw [go_one rfl 2]
    show (SM P).go 2 (⟨j, .pushS i (getA s.l 0), l⟩, _) = _
    rw [go_one rfl 1]
    show (SM P).go 1 (⟨j, .pushT i (getA s.l 0), l⟩, _) = _
    rw [go_one rfl 0]
    show (SM P).go 0 (if casB (setA s.l (i + 1) (hIx (getA s.l 0) + 1)) 0 (getA s.l 0) = true then _ else _) = _
    rw [if_pos hb]
    rfl
  · show One n _ (updF s.hs j (s.hs j).dropLast j) (i :: ts)
    rw [updF_same, e, List.dropLast_concat]
    exact h.push hn
  · show updF s.hs j (s.hs j).dropLast j = _
    rw [updF_same, e, List.dropLast_concat]

/-- what is in hand and what lies there behind these acts. -/
def simA : List Bool → List Int → List Int → List Int × List Int
  | [], hs, ts => (hs, ts)
  | true :: l, hs, [] => simA l hs []
  | true :: l, hs, i :: ts => simA l (hs ++ [i]) ts
  | false :: l, hs, ts => match hs.getLast? with
    | none => simA l hs ts
    | some i => simA l hs.dropLast (i :: ts)
/-- no Pop of these finds none. -/
def finds : List Bool → List Int → List Int → Prop
  | [], _, _ => True
  | true :: _, _, [] => False
  | true :: l, hs, i :: ts => finds l (hs ++ [i]) ts
  | false :: l, hs, ts => match hs.getLast? with
    | none => finds l hs ts
    | some i => finds l hs.dropLast (i :: ts)

theorem run_alone (hn : n ≤ 1000) : ∀ (l : List Bool) (s : SSt) (ts : List Int), One n s.l (s.hs j) ts → ∃ m, m ≤ 3 * l.length ∧ ((SM P).go m (startS j l s)).1.m = .done ∧ One n ((SM P).go m (startS j l s)).2.l (((SM P).go m (startS j l s)).2.hs j) (simA l (s.hs j) ts).2 ∧
    ((SM P).go m (startS j l s)).2.hs j = (simA l (s.hs j) ts).1 ∧ (finds l (s.hs j) ts → ((SM P).go m (startS j l s)).2.wr j = s.wr j)
  | [], s, ts, h => ⟨0, Nat.zero_le _, rfl, h, rfl, fun _ => rfl⟩
  | true :: l, s, [], h => by
    obtain ⟨s', e, h1, h2, h3⟩ := pop_none (P := P) (l := l) (s := { s with bu := updF s.bu j true, ba := updF s.ba j false }) h
    obtain ⟨m, k1, k2, k3, k4, _⟩ := run_alone hn l s' [] h1
    have h2 : s'.hs j = s.hs j := h2
    have eg : (SM P).go (1 + m) (startS j (true :: l) s) = (SM P).go m (startS j l s') := by rw [go_add]; exact congrArg _ e
    rw [h2] at k3 k4
    refine ⟨1 + m, by simp; omega, ?_⟩
    rw [eg]
    exact ⟨k2, k3, k4, fun hf => hf.elim⟩
  | true :: l, s, i :: ts, h => by
    obtain ⟨s', e, h1, h2, h3⟩ := pop_one (P := P) (l := l) (s := { s with bu := updF s.bu j true, ba := updF s.ba j false }) hn h
    obtain ⟨m, k1, k2, k3, k4, k5⟩ := run_alone hn l s' ts h1
    have h2 : s'.hs j = s.hs j ++ [i] := h2
    have h3 : s'.wr j = s.wr j := h3
    have eg : (SM P).go (3 + m) (startS j (true :: l) s) = (SM P).go m (startS j l s') := by rw [go_add]; exact congrArg _ e
    rw [h2] at k3 k4 k5
    refine ⟨3 + m, by simp; omega, ?_⟩
    rw [eg]
    exact ⟨k2, k3, k4, fun hf => (k5 hf).trans h3⟩
  | false :: l, s, ts, h => by
    cases hl : (s.hs j).getLast? with
    | none =>
      have e : startS j (false :: l) s = startS j l s := by
        show (match (s.hs j).getLast? with | none => startS j l s | some i => (⟨j, .pushR i, l⟩, s)) = _
        rw [hl]
      have e2 : simA (false :: l) (s.hs j) ts = simA l (s.hs j) ts := by
        show (match (s.hs j).getLast? with | none => simA l (s.hs j) ts | some i => simA l (s.hs j).dropLast (i :: ts)) = _
        rw [hl]
      have e3 : finds (false :: l) (s.hs j) ts = finds l (s.hs j) ts := by
        show (match (s.hs j).getLast? with | none => finds l (s.hs j) ts | some i => finds l (s.hs j).dropLast (i :: ts)) = _
        rw [hl]
      obtain ⟨m, k1, k2⟩ := run_alone hn l s ts h
      rw [e, e2, e3]
      exact ⟨m, by simp; omega, k2⟩
    | some i =>
      have e : startS j (false :: l) s = (⟨j, .pushR i, l⟩, s) := by
        show (match (s.hs j).getLast? with | none => startS j l s | some i => (⟨j, .pushR i, l⟩, s)) = _
        rw [hl]
      have e2 : simA (false :: l) (s.hs j) ts = simA l (s.hs j).dropLast (i :: ts) := by
        show (match (s.hs j).getLast? with | none => simA l (s.hs j) ts | some i => simA l (s.hs j).dropLast (i :: ts)) = _
        rw [hl]
      have e3 : finds (false :: l) (s.hs j) ts = finds l (s.hs j).dropLast (i :: ts) := by
        show (match (s.hs j).getLast? with | none => finds l (s.hs j) ts | some i => finds l (s.hs j).dropLast (i :: ts)) = _
        rw [hl]
      have es : s.hs j = (s.hs j).dropLast ++ [i] := by
        obtain ⟨ys, hy⟩ := List.getLast?_eq_some_iff.1 hl
        rw [hy, List.dropLast_concat]
      obtain ⟨s', e', h1, h2, h3⟩ := push_one (P := P) (l := l) hn es h
      obtain ⟨m, k1, k2, k3, k4, k5⟩ := run_alone hn l s' (i :: ts) h1
      have eg : (SM P).go (3 + m) (startS j (false :: l) s) = (SM P).go m (startS j l s') := by rw [go_add, e]; exact congrArg _ e'
      rw [h2] at k3 k4 k5
      refine ⟨3 + m, by simp; omega, ?_⟩
      rw [eg, e2, e3]
      exact ⟨k2, k3, k4, fun hf => (k5 hf).trans h3⟩
end

end Go.Proofs.Ythkklcmmbpffiaa

/- Layer 8: a task alone comes to its end. -/
namespace Go.Proofs.Ythkklcmmbpffiaa
open Go.RowKit
set_option maxRecDepth 100000

section
variable {P : SP} {j n : Nat}

theorem runN_of_go {St Pr : Type} {M : Gm St Pr} {q : Pr} {s : St} {d m most : Nat} (hm : m ≤ most) (he : M.ended (M.go m (q, s)).1 = true) :
    (M.runN q s d most).1 = (M.go m (q, s)).1 ∧ (M.runN q s d most).2.1 = (M.go m (q, s)).2 := by
  obtain ⟨e1, e2⟩ := runN_go (M := M) m q s d
  have h : M.ended (M.runN q s d m).1 = true := by rw [e1]; exact he
  have e := runN_end h (most - m)
  rw [show m + (most - m) = most by omega] at e
  rw [e]
  exact ⟨e1, e2⟩
theorem ended_done {q : SPr} (h : q.m = .done) : (SM P).ended q = true := by
  show (match q.m with | .done => true | _ => false) = true
  rw [h]

/-- all these acts, by a worker alone. -/
theorem act_run (hn : n ≤ 1000) (l : List Bool) (s : SSt) (ts : List Int) (h : One n s.l (s.hs j) ts) (d most : Nat) (hm : 3 * l.length ≤ most) :
    (SM P).ended ((SM P).runN (startS j l s).1 (startS j l s).2 d most).1 = true ∧ One n ((SM P).runN (startS j l s).1 (startS j l s).2 d most).2.1.l (((SM P).runN (startS j l s).1 (startS j l s).2 d most).2.1.hs j) (simA l (s.hs j) ts).2 ∧
      ((SM P).runN (startS j l s).1 (startS j l s).2 d most).2.1.hs j = (simA l (s.hs j) ts).1 ∧ (finds l (s.hs j) ts → ((SM P).runN (startS j l s).1 (startS j l s).2 d most).2.1.wr j = s.wr j) := by
  obtain ⟨m, h1, h2, h3, h4, h5⟩ := run_alone (P := P) hn l s ts h
  obtain ⟨e1, e2⟩ := runN_of_go (M := SM P) (q := (startS j l s).1) (s := (startS j l s).2) (d := d) (most := most) (m := m) (by omega) (ended_done h2)
  rw [e1, e2]
  exact ⟨ended_done h2, h3, h4, h5⟩

/-- one act, with the mark b of a moment without things laid ahead of its steps. -/
theorem act_one (hn : n ≤ 1000) (pop b : Bool) (s : SSt) (ts : List Int) (h : One n s.l (s.hs j) ts) (hb : ts = [] → b = true) (d most : Nat) (hm : 3 ≤ most) :
    (SM P).ended ((SM P).runN (startS j [pop] s).1 ((startS j [pop] s).2.mark j 3 b) d most).1 = true ∧ One n ((SM P).runN (startS j [pop] s).1 ((startS j [pop] s).2.mark j 3 b) d most).2.1.l (((SM P).runN (startS j [pop] s).1 ((startS j [pop] s).2.mark j 3 b) d most).2.1.hs j) (simA [pop] (s.hs j) ts).2 ∧
      ((SM P).runN (startS j [pop] s).1 ((startS j [pop] s).2.mark j 3 b) d most).2.1.hs j = (simA [pop] (s.hs j) ts).1 ∧ ((SM P).runN (startS j [pop] s).1 ((startS j [pop] s).2.mark j 3 b) d most).2.1.wr j = s.wr j := by
  have key : ∀ (q : SPr) (s1 s2 : SSt) (m : Nat) (hs' ts' : List Int), m ≤ most → (SM P).go m (q, s1) = (⟨j, .done, []⟩, s2) → One n s2.l (s2.hs j) ts' → s2.hs j = hs' → s2.wr j = s.wr j →
      (SM P).ended ((SM P).runN q s1 d most).1 = true ∧ One n ((SM P).runN q s1 d most).2.1.l (((SM P).runN q s1 d most).2.1.hs j) ts' ∧ ((SM P).runN q s1 d most).2.1.hs j = hs' ∧ ((SM P).runN q s1 d most).2.1.wr j = s.wr j := by
    intro q s1 s2 m hs' ts' h1 h2 h3 h4 h5
    obtain ⟨e1, e2⟩ := runN_of_go (M := SM P) (q := q) (s := s1) (d := d) (most := most) (m := m) h1 (by rw [h2]; rfl)
    rw [e1, e2, h2]
    exact ⟨rfl, h3, h4, h5⟩
  cases pop with
  | true =>
    cases ts with
    | nil =>
      obtain ⟨s', e, h1, h2, h3⟩ := pop_none (P := P) (l := []) (s := ({ s with bu := updF s.bu j true, ba := updF s.ba j false } : SSt).mark j 3 b) h
      refine key _ _ s' 1 _ _ (by omega) e h1 h2 ?_
      rw [h3, hb rfl]
      show (s.wr j || !updF (updF s.ba j false) j true j) = s.wr j
      rw [updF_same]
      simp
    | cons i ts =>
      obtain ⟨s', e, h1, h2, h3⟩ := pop_one (P := P) (l := []) (s := ({ s with bu := updF s.bu j true, ba := updF s.ba j false } : SSt).mark j 3 b) hn h
      exact key _ _ s' 3 _ _ (by omega) e h1 h2 h3
  | false =>
    cases hl : (s.hs j).getLast? with
    | none =>
      have e : startS j [false] s = (⟨j, .done, []⟩, s) := by
        show (match (s.hs j).getLast? with | none => startS j [] s | some i => (⟨j, .pushR i, []⟩, s)) = _
        rw [hl]
        rfl
      have e2 : simA [false] (s.hs j) ts = (s.hs j, ts) := by
        show (match (s.hs j).getLast? with | none => simA [] (s.hs j) ts | some i => simA [] (s.hs j).dropLast (i :: ts)) = _
        rw [hl]
        rfl
      rw [e, e2]
      exact key _ _ (s.mark j 3 b) 0 _ _ (by omega) rfl h rfl rfl
    | some i =>
      have e : startS j [false] s = (⟨j, .pushR i, []⟩, s) := by
        show (match (s.hs j).getLast? with | none => startS j [] s | some i => (⟨j, .pushR i, []⟩, s)) = _
        rw [hl]
      have e2 : simA [false] (s.hs j) ts = ((s.hs j).dropLast, i :: ts) := by
        show (match (s.hs j).getLast? with | none => simA [] (s.hs j) ts | some i => simA [] (s.hs j).dropLast (i :: ts)) = _
        rw [hl]
        rfl
      have es : s.hs j = (s.hs j).dropLast ++ [i] := by
        obtain ⟨ys, hy⟩ := List.getLast?_eq_some_iff.1 hl
        rw [hy, List.dropLast_concat]
      obtain ⟨s', e', h1, h2, h3⟩ := push_one (P := P) (l := []) (s := s.mark j 3 b) hn es h
      rw [e, e2]
      exact key _ _ s' 3 _ _ (by omega) e' h1 h2 h3
end

end Go.Proofs.Ythkklcmmbpffiaa

/- Layer 8: what is put on, taken, and put back. -/
namespace Go.Proofs.Ythkklcmmbpffiaa
open Go.RowKit

/-- the numbers from 0 to m - 1. -/
def upto (m : Nat) : List Int := (List.range m).map fun i : Nat => (i : Int)
theorem upto_succ (m : Nat) : upto (m + 1) = upto m ++ [(m : Int)] := by unfold upto; rw [List.range_succ, List.map_append]; rfl
theorem upto_length (m : Nat) : (upto m).length = m := by simp [upto]

section
variable {n : Nat}
theorem simA_false (l : List Bool) (hs ts : List Int) (i : Int) : simA (false :: l) (hs ++ [i]) ts = simA l hs (i :: ts) := by
  show (match (hs ++ [i]).getLast? with | none => simA l (hs ++ [i]) ts | some i' => simA l (hs ++ [i]).dropLast (i' :: ts)) = _
  rw [List.getLast?_concat, List.dropLast_concat]
theorem finds_false (l : List Bool) (hs ts : List Int) (i : Int) : finds (false :: l) (hs ++ [i]) ts = finds l hs (i :: ts) := by
  show (match (hs ++ [i]).getLast? with | none => finds l (hs ++ [i]) ts | some i' => finds l (hs ++ [i]).dropLast (i' :: ts)) = _
  rw [List.getLast?_concat, List.dropLast_concat]

/-- the last m things in hand are put on. -/
theorem put_on : ∀ (m : Nat) (hs xs ts : List Int), xs.length = m → simA (List.replicate m false) (hs ++ xs) ts = (hs, xs ++ ts) ∧ finds (List.replicate m false) (hs ++ xs) ts
  | 0, hs, xs, ts, h => by
    obtain rfl := List.length_eq_zero_iff.1 h
    rw [List.append_nil]
    exact ⟨rfl, trivial⟩
  | m + 1, hs, xs, ts, h => by
    have hne : xs ≠ [] := fun e => by rw [e] at h; cases h
    obtain ⟨ys, y, rfl⟩ : ∃ ys y, xs = ys ++ [y] := ⟨xs.dropLast, xs.getLast hne, (List.dropLast_concat_getLast hne).symm⟩
    have hl : ys.length = m := by simp at h; omega
    obtain ⟨e1, e2⟩ := put_on m hs ys (y :: ts) hl
    rw [List.replicate_succ, ← List.append_assoc, simA_false, finds_false]
    exact ⟨by rw [e1]; simp, e2⟩
/-- the first m things are taken. -/
theorem taken : ∀ (m : Nat) (hs xs ts : List Int), xs.length = m → simA (List.replicate m true) hs (xs ++ ts) = (hs ++ xs, ts) ∧ finds (List.replicate m true) hs (xs ++ ts)
  | 0, hs, xs, ts, h => by
    obtain rfl := List.length_eq_zero_iff.1 h
    rw [List.append_nil]
    exact ⟨rfl, trivial⟩
  | m + 1, hs, xs, ts, h => by
    cases xs with
    | nil => cases h
    | cons x xs =>
      have hl : xs.length = m := by simp at h; omega
      obtain ⟨e1, e2⟩ := taken m (hs ++ [x]) xs ts hl
      rw [List.replicate_succ]
      show simA (List.replicate m true) (hs ++ [x]) (xs ++ ts) = _ ∧ finds (List.replicate m true) (hs ++ [x]) (xs ++ ts)
      exact ⟨by rw [e1]; simp, e2⟩

/-- a stack without things; all are in hand. -/
theorem one_start (k : Nat) : One k (List.replicate (k + 1) 0) (upto k) [] := by
  refine ⟨sok_zero k, ?_, List.Perm.refl _⟩
  show hIx (getA (List.replicate (k + 1) 0) 0) = -1
  rw [getA_zero]
  unfold hIx
  omega
/-- StackBack's three tasks: all put on; the first m taken; put back. -/
theorem back_all (k m : Nat) (hm : m ≤ k) :
    (simA (List.replicate k false) (upto k) [] = ([], upto k) ∧ finds (List.replicate k false) (upto k) []) ∧
      (simA (List.replicate m true) [] (upto k) = ((upto k).take m, (upto k).drop m) ∧ finds (List.replicate m true) [] (upto k)) ∧
      (simA (List.replicate m false) ((upto k).take m) ((upto k).drop m) = ([], upto k) ∧ finds (List.replicate m false) ((upto k).take m) ((upto k).drop m)) := by
  have hl := upto_length k
  have ht : ((upto k).take m).length = m := by rw [List.length_take, hl]; omega
  have h1 := put_on k [] (upto k) [] hl
  have h2 := taken m [] ((upto k).take m) ((upto k).drop m) ht
  have h3 := put_on m [] ((upto k).take m) ((upto k).drop m) ht
  rw [List.take_append_drop] at h2 h3
  simp only [List.nil_append, List.append_nil] at h1 h2 h3
  exact ⟨h1, h2, h3⟩
end

end Go.Proofs.Ythkklcmmbpffiaa

/- Layer 8: what the law writes of its own leaves the state as it is. -/
namespace Go.Proofs.Ythkklcmmbpffiaa
open Go.RowKit
set_option maxRecDepth 100000

section
variable {P : SP} {r : Nat} {s : SSt} {W W' : World} {K : List Nat}
/-- a block of a type that the state has not is apart from it. -/
theorem SI.apart_ty (h : SI P r s W) {g : Nat} {t : TypeId} {cs : Array Value} (l : Lies W g t cs) (h1 : t ≠ 101) (h2 : t ≠ 111) (h3 : t ≠ 34) (h4 : t ≠ 3) (h5 : t ≠ 31 ∨ ∀ j, j < P.nw → P.gp j = none) : g ∉ P.L ∧ ¬ Rw P.ws W g := by
  refine ⟨fun hm => ?_, fun hr => ?_⟩
  · rcases SP.L_mem.1 hm with rfl | rfl | ⟨j, hj, rfl⟩ | ⟨j, hj, hg⟩
    · exact l.unlike h.ar.head h1 rfl
    · exact l.unlike h.ar.body h2 rfl
    · obtain ⟨v, hl, _⟩ := h.wk j hj
      exact l.unlike hl h3 rfl
    · obtain ⟨v, hl, _⟩ := h.gt j g hj hg
      rcases h5 with h5 | h5
      · exact l.unlike hl h5 rfl
      · rw [h5 j hj] at hg
        cases hg
  · obtain ⟨_, cur, hl⟩ := h.rw hr
    exact l.unlike hl h4 rfl
theorem SI.bools (h : SI P r s W) {g : Nat} {cs : Array Value} (l : Lies W g 4 cs) : g ∉ P.L ∧ ¬ Rw P.ws W g := h.apart_ty l (by decide) (by decide) (by decide) (by decide) (.inl (by decide))
theorem SI.turns (h : SI P r s W) (t : Turns K W W') (hK : ∀ b, b ∈ K → b ∉ P.L ∧ ¬ Rw P.ws W b) : SI P r s W' :=
  h.keep (fun b hb hm => t.block b hb fun hk => by
    rcases hm with h1 | h1
    · exact (hK b hk).1 h1
    · exact (hK b hk).2 h1) t.size
/-- the cells that tell rows are as they were, and so are the rows. -/
theorem SI.rows_turns (hG : P.Good) (h : SI P r s W) (t : Turns K W W') (hK : ∀ b, b ∈ K → b ∉ P.L) {b : Nat} (q : Rw P.ws W' b) : Rw P.ws W b :=
  q.same fun x hx => t.cell (h.block_lt hx) fun hk => hK _ hk ((sm_ok P hG).cells x hx)
theorem Gm.Bx.turns (hG : P.Good) (h : SI P r s W) {b : Nat} {t : TypeId} {cs : Array Value} (x : (SM P).Bx W b t cs) (k : Turns K W W') (hK : ∀ c, c ∈ K → c ∉ P.L) (hb : b ∉ K) : (SM P).Bx W' b t cs :=
  ⟨x.l.turn k hb, x.out, fun q => x.row (SI.rows_turns hG h k hK q), x.ty, x.outX⟩
/-- a slice of bools of the law's own, behind what the machine wrote. -/
theorem VRow.fr {B : Nat} {v : Value} {vs : List Value} (h : SI P r s W) (x : VRow W B 4 v vs) (f : Fr P.L P.ws W W') : VRow W' B 4 v vs :=
  x.kept fun g hg => by
    obtain ⟨_, cur, hl⟩ := x.lies hg
    exact f.block g hl.lt (h.bools hl).1 (h.bools hl).2
/-- the state, behind a bool that was appended. -/
theorem SI.vrow {B : Nat} {v : Value} {vs : List Value} (h : SI P r s W) (x : VRow W B 4 v vs) (t : Turns v.ownBlock.toList W W') : SI P r s W' :=
  h.turns t fun b hb => by
    obtain ⟨_, cur, hl⟩ := x.lies (g := b) (by simpa using hb)
    exact h.bools hl
end

end Go.Proofs.Ythkklcmmbpffiaa

/- Layer 8: StackBack's two first loops: what holds there. -/
namespace Go.Proofs.Ythkklcmmbpffiaa
open Go.RowKit
set_option maxRecDepth 100000

/-- while the worker's hands are filled. -/
structure Fill (w0 : World) (P : SP) (bx B0 k m : Nat) (gt : Nat) (pv : Value) (W : World) : Prop where
  si : ∃ s, SI P 600 s W ∧ s.hs 0 = upto m ∧ s.l = List.replicate (k + 1) 0 ∧ s.wr 0 = false ∧ s.k = 0
  box : (SM P).Bx W bx 27 (stC P)
  puts : VRow W B0 4 pv ((List.replicate m false).map Value.bool)
  there : Lies W gt 4 #[]
  two : pv.ownBlock ≠ some gt
  le : m ≤ k
  be : Below B0 w0 W

/-- while the Pops are counted out. -/
structure There (w0 : World) (P : SP) (bx B0 k m0 j : Nat) (pv tv : Value) (W : World) : Prop where
  si : ∃ s, SI P 600 s W ∧ s.hs 0 = upto k ∧ s.l = List.replicate (k + 1) 0 ∧ s.wr 0 = false ∧ s.k = 0
  box : (SM P).Bx W bx 27 (stC P)
  puts : VRow W B0 4 pv ((List.replicate k false).map Value.bool)
  there : VRow W B0 4 tv ((List.replicate j true).map Value.bool)
  two : ∀ g, pv.ownBlock = some g → tv.ownBlock ≠ some g
  le : j ≤ m0
  few : m0 ≤ k
  be : Below B0 w0 W
theorem There.next {w0 : World} {P : SP} {bx B0 k m0 j : Nat} {pv tv tv' : Value} {W W' : World} (hG : P.Good) (hB0 : B0 ≤ w0.heap.size) (h : There w0 P bx B0 k m0 j pv tv W) (hj : j < m0) (x : VRow W' B0 4 tv' ((List.replicate j true).map Value.bool ++ [.bool true])) (t : Turns tv.ownBlock.toList W W') : There w0 P bx B0 k m0 (j + 1) pv tv' W' := by
  obtain ⟨s, hi, hs⟩ := h.si
  have hK : ∀ b, b ∈ tv.ownBlock.toList → b ∉ P.L ∧ ¬ Rw P.ws W b := fun b hb => by
    obtain ⟨_, cur, hl⟩ := h.there.lies (g := b) (by simpa using hb)
    exact hi.bools hl
  have hp : VRow W' B0 4 pv ((List.replicate k false).map Value.bool) := h.puts.turns t fun g hg hk => h.two g hg (by simpa using hk)
  refine ⟨⟨s, hi.vrow h.there t, hs⟩, Gm.Bx.turns hG hi h.box t (fun b hb => (hK b hb).1) (fun hb => ?_), hp, ?_, fun g hg e => ?_, by omega, h.few, h.be.trans (t.below (fun b hb => (h.there.lies (by simpa using hb)).1) (Nat.le_trans hB0 h.be.size))⟩
  · obtain ⟨_, cur, hl⟩ := h.there.lies (g := bx) (by simpa using hb)
    exact hl.unlike h.box.l (by decide) rfl
  · rw [List.replicate_succ', List.map_append]
    exact x
  · have hk := h.few
    have c1 := hp.own.cells (g := g) hg 0 (.bool false) (by rw [List.getElem?_map, List.getElem?_replicate, if_pos (by omega)]; rfl)
    have c2 := x.own.cells (g := g) e 0 (.bool true) (by
      cases j with
      | zero => rfl
      | succ j => simp [List.replicate_succ])
    rw [c1] at c2
    injection c2 with c2
    injection c2 with c2
    cases c2

end Go.Proofs.Ythkklcmmbpffiaa

/- Slices of slices. (Parted out of Q18.) -/
namespace Go.Proofs.Ythkklcmmbpffiaa
open Go.RowKit Go.ChangeShapes Go.WideShapes

/-- where the first k of a slice lie, and the others. -/
theorem slice_to {t : TypeId} {e : TypeId} (ht : Try.prog.underlying t = some (.slice e)) (h1 : (Try.prog.info? e).map (·.size) = some 1) (A : Option Addr) (n cp k : Nat) (hk : k ≤ cp) (W : World) :
    (Instr.sliceAt t (.slice A n cp) none (some (.int .i64 (k : Int))) none).run Try.prog W = .ok (.slice (if cp = 0 then A else A.map (·.add 0)) k cp) W := by
  obtain ⟨i, hi, hz⟩ := Option.map_eq_some_iff.1 h1
  simp [Instr.sliceAt, Instr.slice, run_underlying ht, Instr.sliceBounds, Instr.sliceBound, asIntOf, sizeOf, typeInfo, hi]
  intro h; omega
theorem slice_from {t : TypeId} {e : TypeId} (ht : Try.prog.underlying t = some (.slice e)) (h1 : (Try.prog.info? e).map (·.size) = some 1) (A : Option Addr) (n cp k : Nat) (hk : k ≤ n) (W : World) :
    (Instr.sliceAt t (.slice A n cp) (some (.int .i64 (k : Int))) none none).run Try.prog W = .ok (.slice (if cp = k then A else A.map (·.add k)) (n - k) (cp - k)) W := by
  obtain ⟨i, hi, hz⟩ := Option.map_eq_some_iff.1 h1
  simp [Instr.sliceAt, Instr.slice, run_underlying ht, Instr.sliceBounds, Instr.sliceBound, asIntOf, sizeOf, typeInfo, hi, hz]
  intro h; omega

theorem add_zero' (a : Addr) : a.add 0 = a := by simp [Addr.add]
section
variable {w : World} {A : Option Addr} {n k cp : Nat} {xs : List Int}
theorem Row.take (h : Row w .i64 A n xs) (hk : k ≤ n) (A' : Option Addr) (hA : A' = (if cp = 0 then A else A.map (·.add 0))) : Row w .i64 A' k (xs.take k) := by
  have e : A' = A := by
    rw [hA]
    split
    · rfl
    · cases A <;> simp [add_zero']
  subst e
  have hl := h.len
  refine ⟨by simp; omega, by have := h.most; omega, fun x hx => h.wf x (List.mem_of_mem_take hx), fun hn => ?_⟩
  obtain ⟨a, e, h1, h2⟩ := h.at_ (by omega)
  refine ⟨a, e, h1, fun i hi => ?_⟩
  rw [h2 i (by omega)]
  simp [List.getD, hi]
theorem Row.drop (h : Row w .i64 A n xs) (hk : k ≤ n) (hcp : n ≤ cp) (A' : Option Addr) (hA : A' = (if cp = k then A else A.map (·.add k))) : Row w .i64 A' (n - k) (xs.drop k) := by
  have hl := h.len
  refine ⟨by simp; omega, by have := h.most; omega, fun x hx => h.wf x (List.mem_of_mem_drop hx), fun hn => ?_⟩
  obtain ⟨a, e, h1, h2⟩ := h.at_ (by omega)
  subst e
  rw [if_neg (by omega)] at hA
  refine ⟨a.add k, by rw [hA]; rfl, by rw [add_block]; exact h1, fun i hi => ?_⟩
  rw [Go.Deep.add_add, h2 (k + i) (by omega)]
  simp [List.getD, List.getElem?_drop]
end

end Go.Proofs.Ythkklcmmbpffiaa

/- Layer 8: StackBack's last loop: what holds there. -/
namespace Go.Proofs.Ythkklcmmbpffiaa
open Go.RowKit Go.ChangeShapes Go.WideShapes
set_option maxRecDepth 100000

theorem made_bools (n : Nat) : madeCells #[.bool false] n = ((List.replicate n false).map Value.bool).toArray := by
  apply Array.ext
  · simp [madeCells]
  · intro i h1 h2
    simp [madeCells, Nat.mod_one]
theorem make_bools (n : Nat) (hn : n ≤ 1048576) (W : World) :
    (Instr.makeSlice 22 (.int .i64 (n : Int)) (.int .i64 (n : Int))).run Try.prog W = .ok (.slice (some ⟨W.heap.size, 0, none⟩) n n) (W.alloc (.cells ((List.replicate n false).map Value.bool).toArray 4)) := by
  obtain ⟨i, hi, hz, hs, hb⟩ := info_parts (P := Try.prog) (t := 4) (z := .bool false) (s := 1) (b := 1) (by kernel_rfl)
  have hr := run_make (P := Try.prog) W 22 4 i _ Try.underlying22 hi hz .i64 .i64 n n (by omega) (by omega) (by rw [hb]; omega) (by omega)
  simp only [Int.toNat_natCast, hs, Nat.mul_one] at hr
  rw [hr, ← made_bools]
  rfl
theorem VRow.made (W : World) {B : Nat} (n : Nat) (hn : n ≤ 1000) (hB : B ≤ W.heap.size) : VRow (W.alloc (.cells ((List.replicate n false).map Value.bool).toArray 4)) B 4 (.slice (some ⟨W.heap.size, 0, none⟩) n n) ((List.replicate n false).map Value.bool) :=
  ⟨⟨by simp, .inr ⟨W.heap.size, n, _, by simp, hB, heap_alloc_new W _, by simp, by simp only [maxLen]; omega, by simp, by simp⟩⟩⟩

theorem Fr.past {L : List Nat} {ws : List Addr} {a w w' : World} {t : Nat} (h : Fr L ws a w) (k : Fr (t :: L) ws w w') (ht : a.heap.size ≤ t) : Fr L ws a w' :=
  ⟨k.os.trans h.os, k.tape.trans h.tape, k.output.trans h.output, Nat.le_trans h.size k.size,
   fun b hb hn hr => (k.block b (Nat.lt_of_lt_of_le hb h.size) (fun hm => by
     rcases List.mem_cons.1 hm with h1 | h1
     · omega
     · exact hn h1) (fun q => hr (h.rows b hb q))).trans (h.block b hb hn hr),
   fun b hb q => h.rows b hb (k.rows b (Nat.lt_of_lt_of_le hb h.size) q)⟩

section
variable {P : SP} {r B : Nat} {s : SSt} {W W' : World} {v : Value} {xs : List Int} {K : List Nat}
theorem SI.down {P : SP} {s : SSt} {W : World} (hG : P.Good) {r r' : Nat} (h : SI P r s W) (k : r' ≤ r) : SI P r' s W := by
  obtain ⟨d, rfl⟩ : ∃ d, r = r' + d := ⟨r - r', by omega⟩
  clear k
  induction d with
  | zero => exact h
  | succ d ih => exact ih ((sm_ok P hG).less _ _ _ h)

/-- a list that the stack told: the machine never writes it. -/
structure LRow (P : SP) (B : Nat) (v : Value) (xs : List Int) (W : World) : Prop where
  row : IRow W B v xs
  out : ∀ g, v.ownBlock = some g → g ∉ P.L ∧ ¬ Rw P.ws W g
theorem LRow.fr (h : LRow P B v xs W) (f : Fr P.L P.ws W W') : LRow P B v xs W' :=
  ⟨h.row.kept fun g hg => f.block g (h.row.lt g hg).2 (h.out g hg).1 (h.out g hg).2, fun g hg => ⟨(h.out g hg).1, f.row (h.row.lt g hg).2 (h.out g hg).2⟩⟩
theorem LRow.turns (hG : P.Good) (hi : SI P r s W) (h : LRow P B v xs W) (t : Turns K W W') (hK : ∀ b, b ∈ K → b ∉ P.L) (hn : ∀ g, v.ownBlock = some g → g ∉ K) : LRow P B v xs W' :=
  ⟨h.row.kept fun g hg => t.block g (h.row.lt g hg).2 (hn g hg), fun g hg => ⟨(h.out g hg).1, fun q => (h.out g hg).2 (SI.rows_turns hG hi t hK q)⟩⟩
theorem LRow.new (hG : P.Good) (hi : SI P r s W) (h : IRow W' W.heap.size v xs) (b : Below W.heap.size W W') (hB : B ≤ W.heap.size) : LRow P B v xs W' := by
  have t : Turns [] W W' := Turns.of_below b (Nat.le_refl _)
  refine ⟨h.less hB, fun g hg => ⟨fun hm => ?_, fun q => ?_⟩⟩
  · have h1 := (h.lt g hg).1
    have h2 := ((sm_ok P hG).okw _ _ _ hi).lt g hm
    omega
  · have h1 := (h.lt g hg).1
    obtain ⟨_, cur, hl⟩ := hi.rw (SI.rows_turns hG hi t (by simp) q)
    have := hl.lt
    omega
theorem VRow.frE {E : TypeId} {vs : List Value} (h : SI P r s W) (x : VRow W B E v vs) (f : Fr P.L P.ws W W') (h1 : E ≠ 101) (h2 : E ≠ 111) (h3 : E ≠ 34) (h4 : E ≠ 3) (h5 : E ≠ 31 ∨ ∀ j, j < P.nw → P.gp j = none) : VRow W' B E v vs :=
  x.kept fun g hg => by
    obtain ⟨_, cur, hl⟩ := x.lies hg
    have := h.apart_ty hl h1 h2 h3 h4 h5
    exact f.block g hl.lt this.1 this.2
end

/-- StackBack's three tasks: their acts; what is in hand, and what lies on the stack, ahead of each. -/
def bsAt (k m0 : Nat) : Nat → List Bool
  | 0 => List.replicate k false
  | 1 => List.replicate m0 true
  | _ => List.replicate m0 false
def hsAt (k m0 : Nat) : Nat → List Int
  | 0 => upto k
  | 2 => (upto k).take m0
  | _ => []
def tsAt (k m0 : Nat) : Nat → List Int
  | 0 => []
  | 2 => (upto k).drop m0
  | _ => upto k
theorem back_step {k m0 j : Nat} (hm : m0 ≤ k) (hj : j < 3) : simA (bsAt k m0 j) (hsAt k m0 j) (tsAt k m0 j) = (hsAt k m0 (j + 1), tsAt k m0 (j + 1)) ∧ finds (bsAt k m0 j) (hsAt k m0 j) (tsAt k m0 j) := by
  obtain ⟨h0, h1, h2⟩ := back_all k m0 hm
  rcases (by omega : j = 0 ∨ j = 1 ∨ j = 2) with rfl | rfl | rfl
  · exact h0
  · exact h1
  · exact h2
theorem bsAt_len {k m0 j : Nat} (hm : m0 ≤ k) : (bsAt k m0 j).length ≤ k := by
  unfold bsAt
  split <;> simp <;> omega
def slAt (pv tv kv : Value) : Nat → Value
  | 0 => pv
  | 1 => tv
  | _ => kv

/-- in StackBack's last loop: j tasks are through. -/
structure Bk (w0 : World) (P : SP) (bx B0 k m0 g3 : Nat) (pv tv kv : Value) (j : Nat) (lv : Value) (W : World) : Prop where
  si : ∃ s, SI P (200 * (3 - j)) s W ∧ One k s.l (s.hs 0) (tsAt k m0 j) ∧ s.hs 0 = hsAt k m0 j ∧ s.wr 0 = false
  box : (SM P).Bx W bx 27 (stC P)
  sl : ∀ i, i < 3 → VRow W B0 4 (slAt pv tv kv i) ((bsAt k m0 i).map Value.bool)
  all : Lies W g3 22 #[pv, tv, kv]
  lists : ∃ vs, VRow W B0 31 lv vs ∧ vs.length = j ∧ ∀ i u, vs[i]? = some u → LRow P B0 u (tsAt k m0 (i + 1)) W
  le : j ≤ 3
  be : Below B0 w0 W

theorem Bk.zero {w0 : World} {P : SP} {bx B0 k m0 : Nat} {pv tv : Value} {W : World} (hG : P.Good) (h : There w0 P bx B0 k m0 m0 pv tv W) (hB : B0 ≤ W.heap.size) (hm : m0 ≤ 1000) :
    Bk w0 P bx B0 k m0 (W.heap.size + 1 + 1) pv tv (.slice (some ⟨W.heap.size, 0, none⟩) m0 m0) 0 (.slice (some ⟨W.heap.size + 1, 0, none⟩) 0 0) (((W.alloc (.cells ((List.replicate m0 false).map Value.bool).toArray 4)).alloc (.cells #[] 31)).alloc (.cells #[pv, tv, .slice (some ⟨W.heap.size, 0, none⟩) m0 m0] 22)) := by
  obtain ⟨s, hi, e1, e2, e3, e4⟩ := h.si
  obtain ⟨X1, hX1⟩ : ∃ X1, W.alloc (.cells ((List.replicate m0 false).map Value.bool).toArray 4) = X1 := ⟨_, rfl⟩
  have v0 : VRow X1 B0 4 (.slice (some ⟨W.heap.size, 0, none⟩) m0 m0) ((List.replicate m0 false).map Value.bool) := by rw [← hX1]; exact VRow.made W m0 hm hB
  have k1 : Turns [] W X1 := by rw [← hX1]; exact (Turns.refl _ _).alloc _
  have z1 : X1.heap.size = W.heap.size + 1 := by rw [← hX1]; simp
  rw [hX1]
  obtain ⟨X2, hX2⟩ : ∃ X2, X1.alloc (.cells #[] 31) = X2 := ⟨_, rfl⟩
  have v1 : VRow X2 B0 31 (.slice (some ⟨W.heap.size + 1, 0, none⟩) 0 0) [] := by rw [← hX2, ← z1]; exact VRow.empty X1 31 (by omega)
  have k2 : Turns [] X1 X2 := by rw [← hX2]; exact (Turns.refl _ _).alloc _
  have z2 : X2.heap.size = W.heap.size + 1 + 1 := by rw [← hX2]; simp [z1]
  rw [hX2]
  have k3 : Turns [] X2 (X2.alloc (.cells #[pv, tv, .slice (some ⟨W.heap.size, 0, none⟩) m0 m0] 22)) := (Turns.refl _ _).alloc _
  have kk := (k1.trans k2).trans k3
  refine ⟨⟨s, hi.turns kk (by simp), ?_, e1, e3⟩, Gm.Bx.turns hG hi h.box kk (by simp) (by simp), fun i hi3 => ?_, Lies.new_of _ _ z2, ⟨[], v1.turns k3 (by simp), rfl, fun i u hu => by simp at hu⟩, by omega, h.be.trans (kk.below (by simp) hB)⟩
  · rw [e2, e1]; exact one_start k
  · rcases (by omega : i = 0 ∨ i = 1 ∨ i = 2) with rfl | rfl | rfl
    · exact h.puts.turns kk (by simp)
    · exact h.there.turns kk (by simp)
    · exact v0.turns (k2.trans k3) (by simp)

theorem Bk.next {w0 : World} {P : SP} {bx B0 k m0 g3 j : Nat} {pv tv kv lv lv' u : Value} {W W9 W10 W11 : World} {vs : List Value} {s' : SSt} (hG : P.Good) (hgp : ∀ j, j < P.nw → P.gp j = none) (hPB : B0 ≤ P.B) (h : Bk w0 P bx B0 k m0 g3 pv tv kv j lv W) (hj : j < 3) (hB : B0 ≤ W.heap.size)
    (f : Fr P.L P.ws W W9) (hi : SI P (200 * (3 - (j + 1))) s' W9) (ho : One k s'.l (s'.hs 0) (tsAt k m0 (j + 1))) (hh : s'.hs 0 = hsAt k m0 (j + 1)) (hw : s'.wr 0 = false)
    (b : Below W9.heap.size W9 W10) (hr : IRow W10 W9.heap.size u (tsAt k m0 (j + 1)))
    (hvs : VRow W B0 31 lv vs ∧ vs.length = j ∧ ∀ i u, vs[i]? = some u → LRow P B0 u (tsAt k m0 (i + 1)) W)
    (x : VRow W11 B0 31 lv' (vs ++ [u])) (t : Turns lv.ownBlock.toList W10 W11) : Bk w0 P bx B0 k m0 g3 pv tv kv (j + 1) lv' W11 := by
  obtain ⟨s, hi0, _⟩ := h.si
  have ap : ∀ {X : World} {r : Nat} {sx : SSt} {g : Nat} {cs : Array Value}, SI P r sx X → Lies X g 31 cs → g ∉ P.L ∧ ¬ Rw P.ws X g := fun h1 h2 => h1.apart_ty h2 (by decide) (by decide) (by decide) (by decide) (.inr hgp)
  have ab : ∀ {X : World} {r : Nat} {sx : SSt} {g : Nat} {cs : Array Value}, SI P r sx X → Lies X g 22 cs → g ∉ P.L ∧ ¬ Rw P.ws X g := fun h1 h2 => h1.apart_ty h2 (by decide) (by decide) (by decide) (by decide) (.inl (by decide))
  have t10 : Turns [] W9 W10 := Turns.of_below b (Nat.le_refl _)
  have hl9 : VRow W9 B0 31 lv vs := hvs.1.frE hi0 f (by decide) (by decide) (by decide) (by decide) (.inr hgp)
  have hl10 := hl9.turns t10 (by simp)
  have hi10 := hi.turns t10 (by simp)
  have hK : ∀ b, b ∈ lv.ownBlock.toList → b ∉ P.L ∧ ¬ Rw P.ws W10 b := fun b hb => by
    obtain ⟨_, cur, hl⟩ := hl10.lies (g := b) (by simpa using hb)
    exact ap hi10 hl
  have nL : ∀ {g : Nat} {ty : TypeId} {cs : Array Value}, Lies W10 g ty cs → ty ≠ 31 → g ∉ lv.ownBlock.toList := fun hl hne hm => by
    obtain ⟨_, cur, hl2⟩ := hl10.lies (g := _) (by simpa using hm)
    exact hl.unlike hl2 hne rfl
  have f10 : Fr P.L P.ws W W10 := f.trans (((sm_ok P hG).okw _ _ _ hi).fr (sm_ok P hG) t10)
  have box10 := h.box.mv f10.mv
  have irow : ∀ {g : Nat} {v : Value} {xs : List Int}, IRow W10 B0 v xs → v.ownBlock = some g → g ∉ lv.ownBlock.toList := fun hr hg => by
    rcases hr.own.2 with ⟨rfl, _⟩ | ⟨g', cap, cur, rfl, _, hb, _⟩
    · cases hg
    · simp [Value.ownBlock] at hg
      subst hg
      exact nL (ty := 3) hb (by decide)
  refine ⟨⟨s', hi10.turns t hK, ho, hh, hw⟩, Gm.Bx.turns hG hi10 box10 t (fun b hb => (hK b hb).1) (nL box10.l (by decide)), fun i hi3 => ?_, ?_, ⟨vs ++ [u], x, by simp [hvs.2.1], fun i y hy => ?_⟩, by omega, ?_⟩
  · have h1 := (h.sl i hi3).fr hi0 f10
    refine h1.turns t fun g hg => ?_
    obtain ⟨_, cur, hl⟩ := h1.lies hg
    exact nL hl (by decide)
  · have h1 := f10.lies h.all (ab hi0 h.all).1 (ab hi0 h.all).2
    exact h1.turn t (nL h1 (by decide))
  · by_cases hy2 : i < vs.length
    · rw [List.getElem?_append_left hy2] at hy
      have h1 := (hvs.2.2 i y hy).fr f10
      exact h1.turns hG hi10 t (fun b hb => (hK b hb).1) (fun g hg => irow h1.row hg)
    · rw [List.getElem?_append_right (by omega)] at hy
      have hi0' : i = vs.length := by
        rcases Nat.lt_or_ge vs.length i with h1 | h1
        · rw [List.getElem?_eq_none (by simp; omega)] at hy; cases hy
        · omega
      rw [hi0', Nat.sub_self] at hy
      simp at hy
      subst hy
      have h1 : LRow P B0 u (tsAt k m0 (j + 1)) W10 := LRow.new hG hi hr b (Nat.le_trans hB f.size)
      rw [hi0', hvs.2.1]
      exact h1.turns hG hi10 t (fun b hb => (hK b hb).1) (fun g hg => irow h1.row hg)
  · have s9 := Nat.le_trans hB f.size
    exact ((h.be.trans ((hi0.below hG (fun b hb => .inl hb) f).mono hPB)).trans (b.mono s9)).trans (t.below (fun b hb => (hl10.lies (by simpa using hb)).1) (Nat.le_trans s9 b.size))

theorem ints_info8 : (Try.prog.info? 31).map (fun i => (i.zero, i.size, i.bytes)) = some (some (.slice none 0 0), 1, 24) := by kernel_rfl

end Go.Proofs.Ythkklcmmbpffiaa

/- Slices of bools that are handed in. -/
namespace Go.Proofs.Ythkklcmmbpffiaa
open Go.RowKit Go.ChangeShapes Go.WideShapes

/-- bools that are handed in, as they lie in the world. -/
structure BRow (w : World) (A : Option Addr) (bs : List Bool) : Prop where
  at_ : 0 < bs.length → ∃ a, A = some a ∧ a.block < w.heap.size ∧ ∀ i, i < bs.length → w.cell? (a.add i) = some (.bool (bs.getD i false))
theorem BRow.keep {w w' : World} {A : Option Addr} {bs : List Bool} (h : BRow w A bs) (k : Below w.heap.size w w') : BRow w' A bs :=
  ⟨fun hn => by
    obtain ⟨a, e, hb, hc⟩ := h.at_ hn
    exact ⟨a, e, Nat.lt_of_lt_of_le hb k.size, fun i hi => (k.cell (by rw [add_block]; exact hb)).trans (hc i hi)⟩⟩


theorem BRow.opened {H : Type} {enc : TypeId × Value → H} {P : Program} {w : World} {base : Nat} {held : Bool} {t e : TypeId} {a : Option Addr} {n c : Nat} {d : DataW H} {p : List MemPlace} (ht : P.underlying t = some (.slice e)) (he : P.underlying e = some .bool) (hc : P.cellsOf e = 1)
    (h : DataW.Trod enc P w base (fun _ => true) held t (.slice a n c) d p) : ∃ bs, bs.length = n ∧ BRow w a bs := by
  obtain ⟨fuel, hf⟩ := h
  rcases Go.Deep.open_bools ht he hc hf with ⟨hcs, _⟩ | ⟨x, l, cp, B, hcs, _, hl, hm, _, hcell⟩
  · simp [Value.cells] at hcs
    obtain ⟨rfl, rfl, rfl⟩ := hcs
    exact ⟨[], rfl, ⟨fun h => by simp at h⟩⟩
  · simp [Value.cells] at hcs
    obtain ⟨rfl, rfl, rfl⟩ := hcs
    refine ⟨(List.range n).map B, by simp, ⟨fun hn => ?_⟩⟩
    have hn : 0 < n := by simpa using hn
    have h0 := cell_block (hcell 0 (by omega))
    rw [add_block] at h0
    refine ⟨x, rfl, h0, fun i hi => ?_⟩
    have hi : i < n := by simpa using hi
    rw [hcell i (by omega)]
    simp [List.getD, hi]

/-- rows of bools that are handed in. -/
structure BGrid (w : World) (A : Option Addr) (bss : List (List Bool)) : Prop where
  at_ : 0 < bss.length → ∃ a, A = some a ∧ a.block < w.heap.size ∧ ∀ i, i < bss.length → ∃ A' c, w.cell? (a.add i) = some (.slice A' (bss.getD i []).length c) ∧ (bss.getD i []).length ≤ c ∧ (bss.getD i []).length ≤ maxLen ∧ BRow w A' (bss.getD i [])
theorem BGrid.keep {w w' : World} {A : Option Addr} {bss : List (List Bool)} (h : BGrid w A bss) (k : Below w.heap.size w w') : BGrid w' A bss :=
  ⟨fun hn => by
    obtain ⟨a, e, hb, hc⟩ := h.at_ hn
    refine ⟨a, e, Nat.lt_of_lt_of_le hb k.size, fun i hi => ?_⟩
    obtain ⟨A', c, h1, h2, h3, h4⟩ := hc i hi
    exact ⟨A', c, (k.cell (by rw [add_block]; exact hb)).trans h1, h2, h3, h4.keep k⟩⟩
theorem BGrid.opened {H : Type} {enc : TypeId × Value → H} {P : Program} {w : World} {base : Nat} {held : Bool} {t e q : TypeId} {a : Option Addr} {n c : Nat} {d : DataW H} {p : List MemPlace} (ht : P.underlying t = some (.slice e)) (he : P.underlying e = some (.slice q)) (hq : P.underlying q = some .bool) (ce : P.cellsOf e = 1) (cq : P.cellsOf q = 1)
    (h : DataW.Trod enc P w base (fun _ => true) held t (.slice a n c) d p) : ∃ bss, bss.length = n ∧ BGrid w a bss := by
  obtain ⟨fuel, hf⟩ := h
  rcases Go.Deep.open_bool_rows ht he hq ce cq hf with ⟨hcs, _⟩ | ⟨x, l, cp, A, L, C, B, hcs, _, hl, hm, _, hr⟩
  · simp [Value.cells] at hcs
    obtain ⟨rfl, rfl, rfl⟩ := hcs
    exact ⟨[], rfl, ⟨fun h => by simp at h⟩⟩
  · simp [Value.cells] at hcs
    obtain ⟨rfl, rfl, rfl⟩ := hcs
    refine ⟨(List.range n).map fun r => (List.range (L r)).map (B r), by simp, ⟨fun hn => ?_⟩⟩
    have hn : 0 < n := by simpa using hn
    have h0 := cell_block (hr 0 (by omega)).1
    rw [add_block] at h0
    refine ⟨x, rfl, h0, fun i hi => ?_⟩
    have hi : i < n := by simpa using hi
    obtain ⟨h1, h2, h3, h4, h5⟩ := hr i (by omega)
    have e1 : (((List.range n).map fun r => (List.range (L r)).map (B r)).getD i []) = (List.range (L i)).map (B i) := by simp [List.getD, hi]
    rw [e1]
    refine ⟨A i, C i, by simpa using h1, by simpa using h2, by simp; omega, ⟨fun hp => ?_⟩⟩
    have hp : 0 < L i := by simpa using hp
    cases hA : A i with
    | none => have := h4 hA; omega
    | some a' =>
      obtain ⟨_, hc⟩ := h5 a' hA
      have h6 := cell_block (hc 0 (by omega))
      rw [add_block] at h6
      refine ⟨a', rfl, h6, fun k hk => ?_⟩
      have hk : k < L i := by simpa using hk
      rw [hc k (by omega)]
      simp [List.getD, hk]

end Go.Proofs.Ythkklcmmbpffiaa

/- Layer 8: StackAlone's rounds: what holds there. -/
namespace Go.Proofs.Ythkklcmmbpffiaa
open Go.RowKit Go.ChangeShapes Go.WideShapes
set_option maxRecDepth 100000

/-- the same machine; the law may write these blocks between steps. -/
def SP.with (P : SP) (ex : List Nat) : SP := { P with ex := ex }
section
variable {P : SP} {r B : Nat} {s : SSt} {W W' : World} {K ex : List Nat}
theorem SP.Good.with (h : P.Good) (ex : List Nat) : (P.with ex).Good := ⟨h.low, h.inj, h.ginj, h.sep, h.few⟩
theorem SI.with (h : SI P r s W) (he : ∀ b, b ∈ ex → b < W.heap.size) : SI (P.with ex) r s W := ⟨h.ar, h.room, h.ok, h.wk, h.gt, h.hb, h.size, h.apart, he⟩
theorem SI.bare (h : SI (P.with ex) r s W) (hP : P.ex = []) : SI P r s W := ⟨h.ar, h.room, h.ok, h.wk, h.gt, h.hb, h.size, h.apart, fun b hb => by rw [hP] at hb; cases hb⟩

/-- a slice that the document's answer told. -/
structure MRow (P : SP) (mv : Value) (ts : List Int) (hv : Value) (W : World) : Prop where
  at_ : ∃ A cp, mv = .slice A ts.length cp ∧ ts.length ≤ cp ∧ Row W .i64 A ts.length ts ∧ ∀ a, A = some a → 0 < ts.length → a.block ∉ P.L ∧ ¬ Rw P.ws W a.block ∧ hv.ownBlock ≠ some a.block
theorem Row.heap {w w' : World} {A : Option Addr} {n : Nat} {xs : List Int} (h : Row w .i64 A n xs) (hs : w.heap.size ≤ w'.heap.size) (k : ∀ a, A = some a → 0 < n → w'.heap[a.block]? = w.heap[a.block]?) : Row w' .i64 A n xs :=
  ⟨h.len, h.most, h.wf, fun hn => by
    obtain ⟨a, e, hb, hc⟩ := h.at_ hn
    exact ⟨a, e, Nat.lt_of_lt_of_le hb hs, fun i hi => (World.cell?_of_block (w := w) (by rw [add_block]; exact k a e hn)).trans (hc i hi)⟩⟩
theorem MRow.fr {mv hv : Value} {ts : List Int} (h : MRow P mv ts hv W) (f : Fr P.L P.ws W W') : MRow P mv ts hv W' := by
  obtain ⟨A, cp, e, h1, h2, h3⟩ := h.at_
  have hlt : ∀ a, A = some a → 0 < ts.length → a.block < W.heap.size := fun a ea hn => by
    obtain ⟨a', e', hb, _⟩ := h2.at_ hn
    rw [ea] at e'
    injection e' with e'
    subst e'
    exact hb
  exact ⟨A, cp, e, h1, h2.heap f.size fun a ea hn => f.block _ (hlt a ea hn) (h3 a ea hn).1 (h3 a ea hn).2.1, fun a ea hn => ⟨(h3 a ea hn).1, f.row (hlt a ea hn) (h3 a ea hn).2.1, (h3 a ea hn).2.2⟩⟩
/-- hands were appended to, or cut. -/
theorem MRow.turn (hG : P.Good) (hi : SI P r s W) {mv hv hv' : Value} {ts : List Int} (h : MRow P mv ts hv W) (t : Turns hv.ownBlock.toList W W') (hK : ∀ b, b ∈ hv.ownBlock.toList → b ∉ P.L) (hn : ∀ g, hv'.ownBlock = some g → hv.ownBlock = some g ∨ W.heap.size ≤ g) : MRow P mv ts hv' W' := by
  obtain ⟨A, cp, e, h1, h2, h3⟩ := h.at_
  have hlt : ∀ a, A = some a → 0 < ts.length → a.block < W.heap.size := fun a ea hp => by
    obtain ⟨a', e', hb, _⟩ := h2.at_ hp
    rw [ea] at e'
    injection e' with e'
    subst e'
    exact hb
  exact ⟨A, cp, e, h1, h2.heap t.size fun a ea hp => t.block _ (hlt a ea hp) (fun hm => (h3 a ea hp).2.2 (by simpa using hm)), fun a ea hp => ⟨(h3 a ea hp).1, fun q => (h3 a ea hp).2.1 (SI.rows_turns hG hi t hK q), fun e2 => by
    rcases hn _ e2 with h4 | h4
    · exact (h3 a ea hp).2.2 h4
    · have := hlt a ea hp; omega⟩⟩
theorem MRow.nil (hv : Value) : MRow P (.slice none 0 0) [] hv W := ⟨none, 0, rfl, Nat.le_refl _, ⟨rfl, by simp, by simp, fun h => by simp at h⟩, fun a e => by cases e⟩
theorem MRow.tail {A : Option Addr} {cp : Nat} {i : Int} {ts : List Int} {hv : Value} (h : MRow P (.slice A (ts.length + 1) cp) (i :: ts) hv W) : MRow P (.slice (tailO A cp) ts.length (cp - 1)) ts hv W := by
  obtain ⟨A', cp', e, h1, h2, h3⟩ := h.at_
  injection e with e1 _ e3
  subst e1
  subst e3
  have h1 : ts.length + 1 ≤ cp := h1
  refine ⟨_, _, rfl, by omega, Row.tail1 (n := ts.length) h2 h1, fun a ea hp => ?_⟩
  unfold tailO at ea
  rw [if_neg (by omega)] at ea
  obtain ⟨a', rfl, rfl⟩ := Option.map_eq_some_iff.1 ea
  rw [add_block]
  exact h3 a' rfl (by simp)
theorem MRow.row {mv hv : Value} {ts : List Int} (h : MRow P mv ts hv W) : ∃ A cp, mv = .slice A ts.length cp ∧ Row W .i64 A ts.length ts := by
  obtain ⟨A, cp, e, _, h2, _⟩ := h.at_
  exact ⟨A, cp, e, h2⟩
/-- what was just made by a call. -/
theorem MRow.new (hG : P.Good) (hi : SI P r s W) {v hv : Value} {xs : List Int} (h : IRow W' W.heap.size v xs) (b : Below W.heap.size W W') (hv1 : ∀ g, hv.ownBlock = some g → g < W.heap.size) : MRow P v xs hv W' := by
  have hL : LRow P W.heap.size v xs W' := LRow.new hG hi h b (Nat.le_refl _)
  obtain ⟨A, cp, e, hr⟩ := h.row
  obtain ⟨A', cp', e', hle⟩ := own_slice h.own
  rw [e] at e'
  injection e' with e1 _ e3
  subst e1
  subst e3
  refine ⟨A, cp, e, hle, hr, fun a ea hp => ?_⟩
  have ho : v.ownBlock = some a.block := by
    rcases h.own.2 with ⟨h0, h1⟩ | ⟨g, cap, cur, h0, _⟩
    · omega
    · rw [h0] at e
      injection e with e _ _
      rw [ea] at e
      injection e with e
      rw [h0, ← e]
      rfl
  refine ⟨(hL.out _ ho).1, (hL.out _ ho).2, fun e2 => ?_⟩
  have h1 := hv1 _ e2
  have h2 := (h.lt _ ho).1
  omega

theorem LRow.lt {v : Value} {xs : List Int} (h : LRow P B v xs W) : ∀ g, v.ownBlock = some g → g < W.heap.size := fun g hg => (h.row.lt g hg).2
/-- the law's own row, appended to. -/
theorem LRow.grow (hG : P.Good) (hi : SI P r s W) {hv : Value} {xs ys : List Int} (h : LRow P B hv xs W) {g cap n : Nat} {W9 : World} (ho : W9.ownsRow B 3 1 (.slice (some ⟨g, 0, none⟩) n cap) n (ys.map (Value.int .i64))) (hy : ys.length = n) (hw : Ints ys) (hg : W.grownBy W9 hv.ownBlock) (hat : hv.ownBlock = some g ∨ W.heap.size ≤ g) :
    LRow P B (.slice (some ⟨g, 0, none⟩) n cap) ys W9 ∧ Turns hv.ownBlock.toList W W9 := by
  have t : Turns hv.ownBlock.toList W W9 := ⟨hg.os, hg.tape, hg.output, hg.size, fun b hb hn => hg.block b hb (fun e => hn (by rw [← e]; simp))⟩
  have hK : ∀ b, b ∈ hv.ownBlock.toList → b ∉ P.L := fun b hb => (h.out b (by simpa using hb)).1
  subst hy
  refine ⟨⟨⟨ho, hw⟩, fun b hb => ?_⟩, t⟩
  simp [Value.ownBlock] at hb
  subst hb
  rcases hat with h1 | h1
  · exact ⟨(h.out _ h1).1, fun q => (h.out _ h1).2 (SI.rows_turns hG hi t hK q)⟩
  · refine ⟨fun hm => ?_, fun q => ?_⟩
    · have := ((sm_ok P hG).okw _ _ _ hi).lt _ hm
      omega
    · obtain ⟨_, cur, hl⟩ := hi.rw (SI.rows_turns hG hi t hK q)
      have := hl.lt
      omega
/-- the law's own row, cut at its end. -/
theorem LRow.cut {A : Option Addr} {n cap : Nat} {ys : List Int} {y : Int} (h : LRow P B (.slice A (n + 1) cap) (ys ++ [y]) W) (hy : ys.length = n) : LRow P B (.slice A n cap) ys W := by
  have ho : W.ownsRow B 3 1 (.slice A (n + 1) cap) (n + 1) (intVs ys ++ intVs [y]) := by
    have := h.row.own
    rw [List.length_append, hy, List.map_append] at this
    exact this
  have hA : ∃ g, A = some ⟨g, 0, none⟩ := by
    rcases ho.2 with ⟨h0, _⟩ | ⟨g, c, cur, h0, _⟩
    · cases h0
    · injection h0 with h0 _ _
      exact ⟨g, h0⟩
  obtain ⟨g, rfl⟩ := hA
  refine ⟨⟨?_, fun x hx => h.row.ints x (List.mem_append.2 (.inl hx))⟩, fun b hb => h.out b hb⟩
  rw [hy]
  exact ownsRow_pop (size := 1) (by rw [List.length_map, hy, Nat.mul_one]) ho
end

/-- in StackAlone's loop: t acts are through. -/
structure Al (w0 : World) (P : SP) (bx B0 k t : Nat) (mv hv : Value) (W : World) : Prop where
  si : ∃ s ts, SI P (6 * (60 - t)) s W ∧ One k s.l (s.hs 0) ts ∧ s.wr 0 = false ∧ MRow P mv ts hv W ∧ LRow P B0 hv (s.hs 0) W
  box : (SM P).Bx W bx 27 (stC P)
  be : Below B0 w0 W
  le : t ≤ 60

/-- ahead of its act's steps: a task at block tk, whose code is begun. -/
structure Ax (w0 : World) (P : SP) (bx B0 m tk : Nat) (ex : List Nat) (q : SPr) (s : SSt) (W : World) : Prop where
  si : SI (P.with ex) m s W
  task : (SM (P.with ex)).Task m q 0 tk W
  w : (SM (P.with ex)).W q s
  box : (SM P).Bx W bx 27 (stC P)
  be : Below B0 w0 W
  low : B0 ≤ tk
theorem Ax.turns {w0 : World} {P : SP} {bx B0 m tk : Nat} {ex : List Nat} {q : SPr} {s : SSt} {W W' : World} (hG : P.Good) (hP : P.ex = []) (h : Ax w0 P bx B0 m tk ex q s W) (hB : B0 ≤ W.heap.size) (t : Turns ex W W') (hx : ∀ b, b ∈ ex → b ∉ P.L ∧ ¬ Rw P.ws W b ∧ b ≠ tk ∧ b ≠ bx ∧ B0 ≤ b) : Ax w0 P bx B0 m tk ex q s W' := by
  have hi := h.si.bare hP
  have hi' := hi.turns t fun b hb => ⟨(hx b hb).1, (hx b hb).2.1⟩
  refine ⟨hi'.with fun b hb => Nat.lt_of_lt_of_le (h.si.exl b hb) t.size, h.task.keep (t.block _ h.task.lt fun hm => (hx _ hm).2.2.1 rfl) ?_, h.w, Gm.Bx.turns hG hi h.box t (fun b hb => (hx b hb).1) (fun hm => (hx _ hm).2.2.2.1 rfl), h.be.trans (t.below (fun b hb => (hx b hb).2.2.2.2) hB), h.low⟩
  exact Mv.of_turns t (fun b hb => .inl (List.mem_append.2 (.inr hb))) fun x hxm => ⟨hi.block_lt hxm, fun hm => (hx _ hm).1 ((sm_ok P hG).cells x hxm)⟩

/-- what the act's steps will do. -/
def Acts8 (P : SP) (ex : List Nat) (k : Nat) (q : SPr) (s : SSt) (hs ts : List Int) : Prop :=
  (SM (P.with ex)).ended ((SM (P.with ex)).runN q s 0 6).1 = true ∧ One k ((SM (P.with ex)).runN q s 0 6).2.1.l (((SM (P.with ex)).runN q s 0 6).2.1.hs 0) ts ∧ ((SM (P.with ex)).runN q s 0 6).2.1.hs 0 = hs ∧ ((SM (P.with ex)).runN q s 0 6).2.1.wr 0 = false

structure Am (w0 : World) (P : SP) (bx B0 k m tk : Nat) (mv hv : Value) (W : World) : Prop where
  si : ∃ (ex : List Nat) (q : SPr) (s : SSt) (hs ts : List Int), Ax w0 P bx B0 m tk ex q s W ∧ Acts8 P ex k q s hs ts ∧ MRow P mv ts hv W ∧ LRow P B0 hv hs W
  off : (∀ A n c a, mv = .slice A n c → A = some a → 0 < n → a.block ≠ tk) ∧ hv.ownBlock ≠ some tk

section
variable {P : SP} {r B tk : Nat} {s : SSt} {W W' : World}
theorem MRow.past {mv hv : Value} {ts : List Int} (h : MRow P mv ts hv W) (f : Fr (tk :: P.L) P.ws W W') (ht : ∀ A n c a, mv = .slice A n c → A = some a → 0 < n → a.block ≠ tk) : MRow P mv ts hv W' := by
  obtain ⟨A, cp, e, h1, h2, h3⟩ := h.at_
  have hlt : ∀ a, A = some a → 0 < ts.length → a.block < W.heap.size := fun a ea hn => by
    obtain ⟨a', e', hb, _⟩ := h2.at_ hn
    rw [ea] at e'
    injection e' with e'
    subst e'
    exact hb
  exact ⟨A, cp, e, h1, h2.heap f.size fun a ea hn => f.block _ (hlt a ea hn) (fun hm => by
    rcases List.mem_cons.1 hm with h4 | h4
    · exact ht _ _ _ _ e ea hn h4
    · exact (h3 a ea hn).1 h4) (h3 a ea hn).2.1, fun a ea hn => ⟨(h3 a ea hn).1, f.row (hlt a ea hn) (h3 a ea hn).2.1, (h3 a ea hn).2.2⟩⟩
theorem LRow.past {v : Value} {xs : List Int} (h : LRow P B v xs W) (f : Fr (tk :: P.L) P.ws W W') (ht : v.ownBlock ≠ some tk) : LRow P B v xs W' :=
  ⟨h.row.kept fun g hg => f.block g (h.row.lt g hg).2 (fun hm => by
    rcases List.mem_cons.1 hm with h4 | h4
    · exact ht (by rw [hg, h4])
    · exact (h.out g hg).1 h4) (h.out g hg).2, fun g hg => ⟨(h.out g hg).1, f.row (h.row.lt g hg).2 (h.out g hg).2⟩⟩
theorem Gm.Bx.past {b : Nat} {t : TypeId} {cs : Array Value} (x : (SM P).Bx W b t cs) (f : Fr (tk :: P.L) P.ws W W') (hb : b ≠ tk) : (SM P).Bx W' b t cs :=
  ⟨f.lies x.l (fun hm => by
    rcases List.mem_cons.1 hm with h4 | h4
    · exact hb h4
    · exact x.out h4) x.row, x.out, f.row x.l.lt x.row, x.ty, x.outX⟩
theorem W_mark {q : SPr} {j k : Nat} {b : Bool} (h : (SM P).W q s) : (SM P).W q (s.mark j k b) := by
  have e : (s.mark j k b).hs = s.hs := by
    unfold SSt.mark
    split
    · rfl
    · split <;> rfl
  obtain ⟨i, m, l⟩ := q
  cases m <;> first | trivial | (show (s.mark j k b).hs i ≠ []; rw [e]; exact h)
end

/-- 'append([]int{}, l...)'. -/
theorem wpList_copy {W : World} {B' : Nat} {xs : List Int} {ops : Array Oper} {rest : List Oper} {o : Oper} {a : Act} {Q : Exit → Act → World → Prop} (hgd : o.guard = none) (s x : Operand) (ho : o.op = .call { callee := .builtin .append, args := #[s, x], argTypes := #[31, 31] })
    (hs : a.eval s = .slice (some ⟨W.heap.size, 0, none⟩) 0 0) (v : Value) (hx : a.eval x = v) (hr : W.ownsRow B' 3 1 v xs.length (xs.map (Value.int .i64))) (hi : Ints xs) (hl : xs.length ≤ 1000)
    (hK : ∀ v' w', IRow w' W.heap.size v' xs → Turns [] W w' → wpList Try.prog ops Q rest (a.put o.dst v') w') : wpList Try.prog ops Q (o :: rest) a (W.alloc (.cells #[] 3)) := by
  obtain ⟨i0, hi0, hz0, hz1, hz2⟩ := info_parts int_info4
  have h0 : (W.alloc (.cells #[] 3)).ownsRow W.heap.size 3 1 (.slice (some ⟨W.heap.size, 0, none⟩) 0 0) 0 [] :=
    ⟨rfl, .inr ⟨W.heap.size, 0, #[], rfl, Nat.le_refl _, heap_alloc_new W _, Nat.le_refl _, by simp [maxLen], rfl, rfl⟩⟩
  have k0 : Turns [] W (W.alloc (.cells #[] 3)) := (Turns.refl _ _).alloc _
  by_cases hn : xs.length = 0
  · obtain rfl := List.length_eq_zero_iff.1 hn
    obtain ⟨A, c, rfl, _⟩ := own_slice hr
    exact wpList_append_zero hgd s x 31 ho 3 i0 Try.underlying31 hi0 ⟨W.heap.size, 0, none⟩ 0 0 A c (Nat.le_refl _) hs hx (hK _ _ ⟨h0, Ints.nil⟩ k0)
  · obtain ⟨g, c, rfl, _, hglt⟩ := hr.form (by omega)
    refine wpList_append_lies _ hgd s x 31 ho W.heap.size 3 i0 _ 1 8 Try.underlying31 hi0 hz0 hz1 hz2 rfl (by omega) _ 0 [] hs h0 ⟨g, 0, none⟩ xs.length c (xs.map (Value.int .i64)) hx (by simp) ?_ ?_ (by omega) (by simp only [maxLen]; omega) (by omega) (by simp) _ rfl ?_
    · intro j u hu
      have := hr.cells (g := g) rfl j u hu
      exact (k0.cell (by rw [add_block]; exact hglt) (by simp)).trans this
    · intro u hu
      obtain ⟨j, _, rfl⟩ := List.mem_map.1 hu
      rfl
    · intro g' cap w' h1 h2 h3 _
      rw [Nat.zero_add] at h1 ⊢
      refine hK _ _ ⟨by simpa using h1, hi⟩ ⟨h2.os, h2.tape, h2.output, ?_, fun b hb _ => ?_⟩
      · have := h2.size
        simp at this
        omega
      · rw [h2.block b (by simp; omega) (by simp [Value.ownBlock]; omega)]
        exact Below.heap_alloc W _ b hb

section
variable {w0 : World} {P : SP} {bx B0 k m tk : Nat} {ex : List Nat} {q : SPr} {s : SSt} {W : World} {mv hv : Value} {hs ts : List Int} {i : Int}
theorem Am.same (hG : P.Good) (hP : P.ex = []) (ax : Ax w0 P bx B0 m tk ex q s W) (hx : ∀ b, b ∈ ex → b ∉ P.L ∧ ¬ Rw P.ws W b ∧ b ≠ tk ∧ b ≠ bx ∧ B0 ≤ b) (hB : B0 ≤ W.heap.size) (act : Acts8 P ex k q s hs ts) (mr : MRow P mv ts hv W) (lr : LRow P B0 hv hs W)
    (o1 : ∀ A n c a, mv = .slice A n c → A = some a → 0 < n → a.block ≠ tk) (o2 : hv.ownBlock ≠ some tk) {W' : World} (t : Turns [] W W') : Am w0 P bx B0 k m tk mv hv W' := by
  have f := ((sm_ok P hG).okw _ _ _ (ax.si.bare hP)).fr (sm_ok P hG) t
  exact ⟨⟨ex, q, s, hs, ts, ax.turns hG hP hB (t.more (by simp)) hx, act, mr.fr f, lr.fr f⟩, o1, o2⟩

theorem Am.pop (hG : P.Good) (hP : P.ex = []) {A : Option Addr} {cp : Nat} (ax : Ax w0 P bx B0 m tk ex q s W) (hex : hv.ownBlock.toList = ex) (hx : ∀ b, b ∈ ex → b ∉ P.L ∧ ¬ Rw P.ws W b ∧ b ≠ tk ∧ b ≠ bx ∧ B0 ≤ b) (hB : B0 ≤ W.heap.size) (act : Acts8 P ex k q s (hs ++ [i]) ts) (mr : MRow P (.slice A (ts.length + 1) cp) (i :: ts) hv W) (lr : LRow P B0 hv hs W)
    (o1 : ∀ A' n c a, Value.slice A (ts.length + 1) cp = .slice A' n c → A' = some a → 0 < n → a.block ≠ tk) (o2 : hv.ownBlock ≠ some tk) (hi : (Lit.int .i64 i).wf = true)
    {g cap : Nat} {w9 : World} (ho : w9.ownsRow B0 3 1 (.slice (some ⟨g, 0, none⟩) (hs.length + 1) cap) (hs.length + 1) (hs.map (Value.int .i64) ++ [.int .i64 i])) (hg : (W.drew.alloc (.cells #[.int .i64 i] 3)).grownBy w9 hv.ownBlock) (hat : hv.ownBlock = some g ∨ g = W.heap.size + 1) :
    Am w0 P bx B0 k m tk (.slice (tailO A cp) ts.length (cp - 1)) (.slice (some ⟨g, 0, none⟩) (hs.length + 1) cap) w9 := by
  have t1 : Turns [] W (W.drew.alloc (.cells #[.int .i64 i] 3)) := ((Turns.refl [] W).drew).alloc _
  have htk := ax.task.lt
  have hi0 := ax.si.bare hP
  have f := ((sm_ok P hG).okw _ _ _ hi0).fr (sm_ok P hG) t1
  have hi1 := hi0.turns t1 (by simp)
  have lr1 := lr.fr f
  have mr1 := mr.fr f
  have ax1 := ax.turns hG hP hB (t1.more (by simp)) hx
  have hz : (W.drew.alloc (.cells #[.int .i64 i] 3)).heap.size = W.heap.size + 1 := by simp
  generalize (W.drew.alloc (.cells #[.int .i64 i] 3)) = W1 at *
  obtain ⟨lr2, t2⟩ := lr1.grow hG hi1 (ys := hs ++ [i]) (by rw [List.map_append]; exact ho) (by simp) (lr.row.ints.app (Ints.one hi)) hg (hat.imp id fun h => by omega)
  have hK : ∀ b, b ∈ hv.ownBlock.toList → b ∉ P.L := fun b hb => (hx b (hex ▸ hb)).1
  have mr2 := (mr1.turn hG hi1 t2 hK (hv' := .slice (some ⟨g, 0, none⟩) (hs.length + 1) cap) (fun g' hg' => by
    simp [Value.ownBlock] at hg'
    subst hg'
    rcases hat with h | h
    · exact .inl h
    · exact .inr (by omega))).tail
  rw [hex] at t2
  refine ⟨⟨ex, q, s, hs ++ [i], ts, ax1.turns hG hP (by omega) t2 (fun b hb => ?_), act, mr2, lr2⟩, fun A' n c a e1 e2 hn => ?_, fun e => ?_⟩
  · obtain ⟨h1, h2, h3⟩ := hx b hb
    exact ⟨h1, fun q => h2 (SI.rows_turns hG hi0 t1 (by simp) q), h3⟩
  · obtain ⟨A'', cp'', e3, h4, _⟩ := mr.at_
    injection e3 with e3 _ e4
    subst e4
    have h4 : ts.length + 1 ≤ cp := h4
    injection e1 with e1 e5 _
    subst e1
    subst e5
    unfold tailO at e2
    rw [if_neg (by omega)] at e2
    obtain ⟨a', ha', rfl⟩ := Option.map_eq_some_iff.1 e2
    rw [add_block]
    exact o1 A _ _ a' rfl ha' (by omega)
  · simp [Value.ownBlock] at e
    subst e
    rcases hat with h | h
    · exact o2 h
    · omega

theorem Am.push (hG : P.Good) (hP : P.ex = []) {A : Option Addr} {n cp : Nat} (ax : Ax w0 P bx B0 m tk ex q s W) (hx : ∀ b, b ∈ ex → b ∉ P.L ∧ ¬ Rw P.ws W b ∧ b ≠ tk ∧ b ≠ bx ∧ B0 ≤ b) (hB : B0 ≤ W.heap.size) (act : Acts8 P ex k q s hs (i :: ts)) (lr : LRow P B0 (.slice A (n + 1) cp) (hs ++ [i]) W) (hn : hs.length = n)
    (o2 : (Value.slice A (n + 1) cp).ownBlock ≠ some tk) {v : Value} {W0 W' : World} (t0 : Turns [] W W0) (h : IRow W' W0.heap.size v (i :: ts)) (b : Below W0.heap.size W0 W') : Am w0 P bx B0 k m tk v (.slice A n cp) W' := by
  have htk := ax.task.lt
  have hi0 := ax.si.bare hP
  have t : Turns [] W0 W' := Turns.of_below b (Nat.le_refl _)
  have f := ((sm_ok P hG).okw _ _ _ hi0).fr (sm_ok P hG) (t0.trans t)
  have f0 := ((sm_ok P hG).okw _ _ _ hi0).fr (sm_ok P hG) t0
  have hb : (Value.slice A n cp).ownBlock = (Value.slice A (n + 1) cp).ownBlock := by cases A <;> rfl
  have hm : MRow P v (i :: ts) (.slice A n cp) W' := MRow.new hG (hi0.turns t0 (by simp)) h b (fun g hg => (lr.fr f0).lt g (by rw [← hb]; exact hg))
  refine ⟨⟨ex, q, s, hs, i :: ts, ax.turns hG hP hB ((t0.trans t).more (by simp)) hx, act, hm, (lr.fr f).cut hn⟩, fun A' n' c a e1 e2 hp => ?_, by rw [hb]; exact o2⟩
  have hg : v.ownBlock = some a.block := by
    rcases h.own.2 with ⟨h0, _⟩ | ⟨g, cap, cur, h0, _⟩
    · rw [h0] at e1; injection e1 with e1 _ _; rw [← e1] at e2; cases e2
    · rw [h0] at e1
      injection e1 with e1 _ _
      rw [← e1] at e2
      injection e2 with e2
      rw [h0, ← e2]
      rfl
  have := (h.lt _ hg).1
  have := t0.size
  omega
end

end Go.Proofs.Ythkklcmmbpffiaa

/- The inbox: one task alone, act by act: what holds between acts. -/
namespace Go.Proofs.Ythkklcmmbpffiaa
open Go.RowKit Go.ChangeShapes Go.WideShapes
set_option maxRecDepth 100000

/-- the state without what an owner got. -/
def BSt.bare (s : BSt) : BSt := ⟨s.l, s.k, [], []⟩
def BSt.own (s : BSt) (g e : List Int) : BSt := ⟨s.l, s.k, g, e⟩
def isP (q : BPr) : Prop := match q.m with
  | .dR => False
  | .dT _ => False
  | .eN _ => False
  | .eI _ => False
  | _ => True
theorem isP_start (l : List Int) : isP (startP l) := by cases l <;> trivial
theorem step_own (n : Nat) (q : BPr) (s : BSt) (g e : List Int) (h : isP q) : bStep n q (s.own g e) = ((bStep n q s).1, (bStep n q s).2.own g e) ∧ isP (bStep n q s).1 := by
  obtain ⟨m, ql, qn⟩ := q
  cases m with
  | dR => exact h.elim
  | dT o => exact h.elim
  | eN i => exact h.elim
  | eI x => exact h.elim
  | done => exact ⟨rfl, trivial⟩
  | pR =>
    refine ⟨rfl, ?_⟩
    unfold bStep
    dsimp only
    split <;> trivial
  | pD o =>
    refine ⟨rfl, ?_⟩
    unfold bStep
    dsimp only
    split <;> trivial
  | pN o => exact ⟨rfl, trivial⟩
  | pT o y =>
    refine ⟨rfl, ?_⟩
    unfold bStep
    dsimp only
    split <;> trivial
  | pA i => exact ⟨rfl, trivial⟩
  | pB i o => exact ⟨rfl, trivial⟩
  | pC i o =>
    show (if casB s.l 1 o = true then _ else _) = _ ∧ _
    unfold bStep
    dsimp only
    split <;> exact ⟨rfl, trivial⟩
  | pS o => exact ⟨rfl, trivial⟩
  | pU o =>
    show (if casB s.l 0 o = true then _ else _) = _ ∧ _
    unfold bStep
    dsimp only
    split
    · exact ⟨rfl, isP_start _⟩
    · exact ⟨rfl, trivial⟩
theorem runP_own {P : BP} {q : BPr} {s : BSt} (g e : List Int) (d : Nat) (h : isP q) : ∀ m, (BM P).runN q (s.own g e) d m = (((BM P).runN q s d m).1, ((BM P).runN q s d m).2.1.own g e, ((BM P).runN q s d m).2.2) ∧ isP ((BM P).runN q s d m).1
  | 0 => ⟨rfl, h⟩
  | m + 1 => by
    obtain ⟨h1, h2⟩ := runP_own (P := P) (s := s) g e d h m
    have e1 : (BM P).runN q (s.own g e) d (m + 1) = ((BM P).sQ ((BM P).runN q (s.own g e) d m).1 ((BM P).runN q (s.own g e) d m).2.1, (BM P).sS ((BM P).runN q (s.own g e) d m).1 ((BM P).runN q (s.own g e) d m).2.1, (BM P).sD ((BM P).runN q (s.own g e) d m).1 ((BM P).runN q (s.own g e) d m).2.2) := rfl
    have e2 : (BM P).runN q s d (m + 1) = ((BM P).sQ ((BM P).runN q s d m).1 ((BM P).runN q s d m).2.1, (BM P).sS ((BM P).runN q s d m).1 ((BM P).runN q s d m).2.1, (BM P).sD ((BM P).runN q s d m).1 ((BM P).runN q s d m).2.2) := rfl
    rw [e1, e2, h1]
    generalize (BM P).runN q s d m = c at *
    obtain ⟨h3, h4⟩ := step_own P.n c.1 c.2.1 g e h2
    dsimp only
    unfold Gm.sQ Gm.sS Gm.sD
    by_cases he : (BM P).ended c.1 = true
    · simp only [if_pos he]
      exact ⟨trivial, h2⟩
    · simp only [if_neg he]
      have h5 : (BM P).step c.1 (c.2.1.own g e) = (((BM P).step c.1 c.2.1).1, ((BM P).step c.1 c.2.1).2.own g e) := h3
      rw [h5]
      exact ⟨rfl, h4⟩
theorem Gb.rebase {n N T : Nat} {all : List Int} {q : Nat → BPr} {s : BSt} {hs : Nat → List Int} {bx fs : List Int} (h : Gb n N T all q s hs bx fs) : Gb n N T (bx ++ (fs ++ allB N hs)) q s.bare hs bx fs :=
  ⟨h.ok, h.cb, h.cf, fun a => by rw [List.count_append, List.count_append]; show _ + _ + ([] : List Int).count a + _ = _; simp; omega, fun a => by rw [List.count_append, List.count_append]; have := h.cnt a; have := h.one a; omega, fun a ha => h.rng a (by
    have h1 := count_mem.1 ha
    rw [List.count_append, List.count_append] at h1
    have := h.cnt a
    exact count_mem.2 (by omega)), h.h0, h.h1, h.wk, h.dead, h.fit⟩
theorem Gb.rebase_mem {n N T : Nat} {all : List Int} {q : Nat → BPr} {s : BSt} {hs : Nat → List Int} {bx fs : List Int} (h : Gb n N T all q s hs bx fs) {a : Int} (ha : a ∈ bx ++ (fs ++ allB N hs)) : a ∈ all := by
  have h1 := count_mem.1 ha
  rw [List.count_append, List.count_append] at h1
  have := h.cnt a
  exact count_mem.2 (by omega)

/-- a slice of numbers that can be read, apart from all that steps write. -/
structure MR (P : BP) (v : Value) (xs : List Int) (W : World) : Prop where
  at_ : ∃ A cp, v = .slice A xs.length cp ∧ xs.length ≤ cp ∧ Row W .i64 A xs.length xs ∧ ∀ a, A = some a → 0 < xs.length → (∃ cur, Lies W a.block 3 cur) ∧ ¬ Rw P.ws W a.block
section
variable {P : BP} {r : Nat} {s : BSt} {W W' : World} {v : Value} {xs : List Int}
theorem MR.keep (h : MR P v xs W) (hs : W.heap.size ≤ W'.heap.size) (k : ∀ b cur, Lies W b 3 cur → ¬ Rw P.ws W b → W'.heap[b]? = W.heap[b]? ∧ ¬ Rw P.ws W' b) : MR P v xs W' := by
  obtain ⟨A, cp, e, h1, h2, h3⟩ := h.at_
  refine ⟨A, cp, e, h1, h2.heap hs fun a ea hn => ?_, fun a ea hn => ?_⟩
  · obtain ⟨⟨cur, hl⟩, hr⟩ := h3 a ea hn
    exact (k _ _ hl hr).1
  · obtain ⟨⟨cur, hl⟩, hr⟩ := h3 a ea hn
    obtain ⟨k1, k2⟩ := k _ _ hl hr
    exact ⟨⟨cur, k1.trans hl⟩, k2⟩
theorem MR.turns (hG : P.Good) (hi : BI P r s W) (h : MR P v xs W) (t : Turns [] W W') : MR P v xs W' :=
  h.keep t.size fun b cur hl hr => ⟨t.block b hl.lt (by simp), fun q => hr (BI.rows_turns hG hi t (by simp) q)⟩
theorem MR.nil (P : BP) (W : World) : MR P (.slice none 0 0) [] W := ⟨none, 0, rfl, Nat.le_refl _, ⟨rfl, by simp, by simp, fun h => by simp at h⟩, fun a e => by cases e⟩
theorem MR.row (h : MR P v xs W) : ∃ A cp, v = .slice A xs.length cp ∧ xs.length ≤ cp ∧ Row W .i64 A xs.length xs := by
  obtain ⟨A, cp, e, h1, h2, _⟩ := h.at_
  exact ⟨A, cp, e, h1, h2⟩
theorem MR.new (hG : P.Good) (hi : BI P r s W) (t : Turns [] W W') (h : IRow W' W.heap.size v xs) : MR P v xs W' := by
  obtain ⟨A, cp, e, hr⟩ := h.row
  obtain ⟨A', cp', e', hle⟩ := own_slice (n := xs.length) h.own
  rw [e] at e'
  injection e' with e1 _ e3
  subst e1
  subst e3
  refine ⟨A, cp, e, hle, hr, fun a ea hp => ?_⟩
  have ho : v.ownBlock = some a.block := by rw [e, ea]; rfl
  obtain ⟨hb, cur, hl⟩ := own_block h.own ho
  refine ⟨⟨cur, hl⟩, fun q => ?_⟩
  obtain ⟨_, cur2, hl2⟩ := hi.rw (BI.rows_turns hG hi t (by simp) q)
  have := hl2.lt
  omega
theorem MR.rd (hG : P.Good) (hi : BI P r s W) (t : Turns [] W W') {v0 : Value} {xs0 : List Int} (h0 : MR P v0 xs0 W) (h : Rd W v0 xs0 v xs W') : MR P v xs W' := by
  rcases h.old with ⟨rfl, rfl⟩ | h1
  · exact h0.turns hG hi t
  · exact MR.new hG hi t h1
/-- behind a task's steps, by the machine of whatever owner. -/
theorem MR.past (hG : P.Good) (hi : BI P r s W) (h : MR P v xs W) {L : List Nat} {ws : List Addr} (f : Fr L ws W W') (hL : ∀ b, b ∈ L → (∃ cs, Lies W b 89 cs) ∨ (∃ cs, Lies W b 101 cs) ∨ (∃ cs, Lies W b 111 cs) ∨ ∃ cs, Lies W b 72 cs)
    (hw : (∀ b, ¬ Rw ws W b) ∧ P.ob ∉ L ∨ ws = P.ws) : MR P v xs W' := by
  have hn : ∀ b cur, Lies W b 3 cur → b ∉ L := fun b cur hl hm => by
    rcases hL b hm with ⟨cs, h1⟩ | ⟨cs, h1⟩ | ⟨cs, h1⟩ | ⟨cs, h1⟩
    · exact hl.unlike h1 (by decide) rfl
    · exact hl.unlike h1 (by decide) rfl
    · exact hl.unlike h1 (by decide) rfl
    · exact hl.unlike h1 (by decide) rfl
  refine h.keep f.size fun b cur hl hr => ?_
  rcases hw with ⟨hw, ho⟩ | rfl
  · refine ⟨f.block b hl.lt (hn b cur hl) (hw b), fun q => hr (q.same fun x hx => ?_)⟩
    have hx2 := (bm_ok P hG).cells x hx
    refine f.cell (((bm_ok P hG).okw _ _ _ hi).lt _ hx2) ?_ (hw _)
    rcases BP.ws_mem.1 hx with rfl | rfl <;> exact ho
  · exact ⟨f.block b hl.lt (hn b cur hl) hr, f.row hl.lt hr⟩
end

/-- all is laid, beside an owner of old. -/
theorem beginG {W : World} {p c n ob bx ba bn B r : Nat} {l got ends : List Int} {k : Int} {v u : Value} (ha : Arena W p c l k) (hk : k + r ≤ 4611686018427387904) (hl : BOk n l) (how : Lies W ob 72 #[v, u]) (hv : W.ownsRow B 3 1 v got.length (intVs got)) (hu : W.ownsRow B 3 1 u ends.length (intVs ends)) (hne : ∀ g, v.ownBlock = some g → u.ownBlock ≠ some g) (hg : ∀ i, i ∈ got → Ix i) (he : ∀ i, i ∈ ends → Ix i)
    (hbx : Lies W bx 62 (bxC p 0 1 46 47 #[] #[ptr ba, ptr bn])) (hba : Lies W ba 24 #[ptr p]) (hbn : Lies W bn 3 #[.int .i64 (n : Int)]) (h1 : B ≤ p) (h2 : B ≤ c) (h3 : B ≤ ob) (hn : n ≤ 1000) (hr : got.length + r ≤ 5000 ∧ ends.length + r ≤ 5000) (hx : v.ownBlock ≠ some bn ∧ u.ownBlock ≠ some bn) :
    (⟨p, c, B, n, ob, []⟩ : BP).Good ∧ BI ⟨p, c, B, n, ob, []⟩ r ⟨l, k, got, ends⟩ W ∧ BCtx ⟨p, c, B, n, ob, []⟩ bx ba bn W := by
  have hi : BI ⟨p, c, B, n, ob, []⟩ r ⟨l, k, got, ends⟩ W := ⟨ha, hk, hl, ⟨_, _, how, hv, hu, hne⟩, hg, he, hr, fun b hb => (by cases hb)⟩
  have hG : (⟨p, c, B, n, ob, []⟩ : BP).Good := ⟨⟨h1, h2, h3⟩, ⟨ha.head.unlike ha.body (by decide), how.unlike ha.head (by decide), how.unlike ha.body (by decide)⟩, hn⟩
  have a1 := hi.apart_ty hbx (by decide) (by decide) (by decide) (by decide)
  have a2 := hi.apart_ty hba (by decide) (by decide) (by decide) (by decide)
  refine ⟨hG, hi, ⟨⟨hbx, a1.1, a1.2, by decide, by simp [BM]⟩, ⟨hba, a2.1, a2.2, by decide, by simp [BM]⟩, ⟨hbn, hi.apart_int hbn, fun q => ?_, by decide, by simp [BM]⟩⟩⟩
  obtain ⟨a, ha', o, m, d, e⟩ := q
  rcases BP.ws_mem.1 ha' with rfl | rfl
  · rw [show W.cell? ⟨ob, 0, none⟩ = some v from how.cell 0] at e
    injection e with e
    exact hx.1 (by rw [e]; rfl)
  · rw [show W.cell? ⟨ob, 1, none⟩ = some u from how.cell 1] at e
    injection e with e
    exact hx.2 (by rw [e]; rfl)

/-- between acts: t are through, nx tickets were put; which are in the box, and free; which are dead. -/
structure Alc (P : BP) (db t nx : Nat) (mv fv : Value) (W : World) (s : BSt) (N T : Nat) (all : List Int) (q : Nat → BPr) (hs : Nat → List Int) (b f : List Int) (d : Int → Bool) : Prop where
  si : BI P (20 * (60 - t) + 160 * (20 - nx) + 4 * b.length) s W
  gb : Gb 20 N T all q s.bare hs b f
  mks : MarksAre 20 s.l d
  few : T ≤ 1000 * t
  new : ∀ a, a ∈ all → a < (nx : Int)
  len : all.length ≤ nx
  m : MR P mv b W
  f : MR P fv f W
  dead : ∀ i : Nat, i < 20 → W.cell? ⟨db, i, none⟩ = some (.bool (d i))
structure Al9 (w0 : World) (P : BP) (bx ba bn db t nx : Nat) (mv fv : Value) (W : World) : Prop where
  at_ : ∃ s N T all q hs b f d, Alc P db t nx mv fv W s N T all q hs b f d
  dl : ∃ cs, Lies W db 4 cs
  ctx : BCtx P bx ba bn W
  be : Below P.B w0 W
  nx : nx ≤ 20
section
variable {w0 : World} {P : BP} {bx ba bn db t nx N T : Nat} {mv fv v1 v2 cv : Value} {W W1 W2 W3 : World} {s : BSt} {all b f : List Int} {q : Nat → BPr} {hs : Nat → List Int} {d : Int → Bool}
theorem Al9.turns (hG : P.Good) (h : Al9 w0 P bx ba bn db t nx mv fv W) (k : Turns [] W W1) : Al9 w0 P bx ba bn db t nx mv fv W1 := by
  obtain ⟨s, N, T, all, q, hs, b, f, d, h1, h2, h3, h4, h5, h6, h7, h8, h9⟩ := h.at_
  obtain ⟨cs, hl⟩ := h.dl
  exact ⟨⟨s, N, T, all, q, hs, b, f, d, h1.turns k (by simp), h2, h3, h4, h5, h6, h7.turns hG h1 k, h8.turns hG h1 k, fun i hi => (k.cell (p := ⟨db, i, none⟩) hl.lt (by simp)).trans (h9 i hi)⟩, ⟨cs, hl.turn k (by simp)⟩, h.ctx.turns hG h1 k (by simp) (by simp), h.be.trans (k.below (by simp) ((bm_ok P hG).okw _ _ _ h1).base), h.nx⟩
/-- code that puts the next ticket. -/
theorem Al9.code (hG : P.Good) (hP : P.n = 20) (hx : P.ex = []) (h : Al9 w0 P bx ba bn db t nx mv fv W) (hn : nx < 20) (k : Turns [] W W1) {g : Nat} (hg : W.heap.size ≤ g) (lg : Lies W1 g 3 #[.int .i64 (nx : Int)]) : (BM P).Makes 6000 (startP [(nx : Int)]) 30 #[bxP P #[ptr ba, ptr bn], .slice (some ⟨g, 0, none⟩) 1 1, .nilFunc] W1 := by
  obtain ⟨s, N, T, all, q, hs, b, f, d, h1, _⟩ := h.at_
  have hi := h1.turns k (by simp)
  have hx1 := h.ctx.turns hG h1 k (by simp) (by simp)
  refine puts_g hG (ba := ba) (bn := bn) 6000 [(nx : Int)] (fun y hy => by rw [List.mem_singleton] at hy; subst hy; rw [hP]; omega) (some ⟨g, 0, none⟩) 1 W1 _ s (Nat.le_refl _) hi ⟨by simp, fun _ => ⟨_, rfl, lg.lt, fun hm => (List.mem_append.1 hm).elim (hi.apart_int lg) (by rw [hx]; simp), fun q => ?_, fun q => q.ne lg (by decide), fun i hi' => ?_⟩⟩ hx1.xa hx1.xn
  · obtain ⟨_, cur2, hl2⟩ := h1.rw (BI.rows_turns hG h1 k (by simp) q)
    have h9 : g < W.heap.size := hl2.lt
    omega
  · have hi2 : i < 1 := hi'
    obtain rfl : i = 0 := by omega
    rw [add_head4, lg.cell 0]
    rfl
theorem helpL_len (d : Int → Bool) : ∀ (b f : List Int), (helpL d b f).1.length ≤ b.length
  | [], f => Nat.le_refl _
  | x :: b, f => by
    show (if d x = true then helpL d b (x :: f) else (x :: b, f)).1.length ≤ _
    split
    · have := helpL_len d b (x :: f)
      simp
      omega
    · exact Nat.le_refl _
/-- the blocks of a task's steps, by their types. -/
theorem BI.types {r : Nat} (h : BI P r s W) {tk : Nat} {cs : Array Value} (l : Lies W tk 89 cs) : ∀ b, b ∈ tk :: P.L → (∃ cs, Lies W b 89 cs) ∨ (∃ cs, Lies W b 101 cs) ∨ (∃ cs, Lies W b 111 cs) ∨ ∃ cs, Lies W b 72 cs := fun b hb => by
  rcases List.mem_cons.1 hb with rfl | hb
  · exact .inl ⟨_, l⟩
  · rcases BP.L_mem.1 hb with rfl | rfl | rfl
    · exact .inr (.inl ⟨_, h.ar.head⟩)
    · exact .inr (.inr (.inl ⟨_, h.ar.body⟩))
    · obtain ⟨v, u, hl, _⟩ := h.ow
      exact .inr (.inr (.inr ⟨_, hl⟩))
theorem off_types {L : List Nat} {g : Nat} {ty : TypeId} {cs : Array Value} (l : Lies W g ty cs) (hL : ∀ b, b ∈ L → (∃ cs, Lies W b 89 cs) ∨ (∃ cs, Lies W b 101 cs) ∨ (∃ cs, Lies W b 111 cs) ∨ ∃ cs, Lies W b 72 cs) (h1 : ty ≠ 89) (h2 : ty ≠ 101) (h3 : ty ≠ 111) (h4 : ty ≠ 72) : g ∉ L := fun hm => by
  rcases hL g hm with ⟨cs, k⟩ | ⟨cs, k⟩ | ⟨cs, k⟩ | ⟨cs, k⟩
  · exact l.unlike k h1 rfl
  · exact l.unlike k h2 rfl
  · exact l.unlike k h3 rfl
  · exact l.unlike k h4 rfl
theorem BSt.own_bare (s : BSt) : s.bare.own s.got s.ends = s := rfl

/-- a ticket is put. -/
theorem Alc.put (hG : P.Good) (hP : P.n = 20) (h : Alc P db t nx mv fv W s N T all q hs b f d) (hdl : ∃ cs, Lies W db 4 cs) (hctx : BCtx P bx ba bn W) (hbe : Below P.B w0 W) (hn : nx < 20) (ht : t < 60) (k : Turns [] W W3) (hc : (BM P).Code 6000 (startP [(nx : Int)]) cv W3) (hm : MR P v1 ((nx : Int) :: (helpL d b f).1) W3) (hf : MR P v2 (helpL d b f).2 W3) :
    Calls Try.prog 18 #[ptr W3.heap.size, .int .i64 (400 : Nat)] (W3.alloc (.cells #[cv, .int .i64 0] 89)) fun e w' => e = .returned (.bool true) ∧ Al9 w0 P bx ba bn db (t + 1) (nx + 1) v1 v2 w' := by
  have hM := bm_ok P hG
  have hbl : b.length ≤ nx := Nat.le_trans (count_len b fun a => by have := h.gb.cnt a; omega) h.len
  have hi3 := h.si.turns k (by simp)
  have hw3 := hM.okw _ _ _ hi3
  have k4 : Turns [] W3 (W3.alloc (.cells #[cv, .int .i64 0] 89)) := (Turns.refl _ _).alloc _
  have hi4 := hi3.turns k4 (by simp)
  obtain ⟨q', hs', bx', fs', g1, g2, g3, g4, g5, g6⟩ := h.gb.puts (P := P) hP (c := [(nx : Int)]) (by simp) (fun a ha => by rw [List.mem_singleton] at ha; subst ha; omega) (fun a ha hb => by rw [List.mem_singleton] at ha; subst ha; have := h.new _ hb; omega) (by omega) d h.mks (18 + 7 * b.length) (by have := h.few; omega) (by simp; omega)
  obtain ⟨e1, _⟩ := runP_own (P := P) (q := startP [(nx : Int)]) (s := s.bare) s.got s.ends 0 (isP_start _) (18 + 7 * b.length)
  rw [BSt.own_bare] at e1
  have hend : (BM P).ended ((BM P).runN (startP [(nx : Int)]) s 0 (18 + 7 * b.length)).1 = true := by rw [e1]; exact g3
  have hst : ((BM P).runN (startP [(nx : Int)]) s 0 (18 + 7 * b.length)).2.1 = ((BM P).runN (startP [(nx : Int)]) s.bare 0 (18 + 7 * b.length)).2.1.own s.got s.ends := by rw [e1]
  have tk := (Gm.Task.made hM hw3 hc).to (m := 20 * (60 - t) + 160 * (20 - nx) + 4 * b.length) (by omega)
  have hmore := h.gb.moreP (c := [(nx : Int)]) (by simp) (fun a ha => by rw [List.mem_singleton] at ha; subst ha; omega) (fun a ha hb => by rw [List.mem_singleton] at ha; subst ha; have := h.new _ hb; omega)
  refine (finish_e hM 400 (m0 := 18 + 7 * b.length) (by omega) (by omega) (by omega) tk hi4 hend (fun j hj _ => ?_) (by omega)).mono ?_
  · have hwj := hmore.w_alone hP (by omega) (Nat.lt_succ_self N) 0 j (by have := h.few; omega)
    rw [updF_same] at hwj
    obtain ⟨e2, _⟩ := runP_own (P := P) (q := startP [(nx : Int)]) (s := s.bare) s.got s.ends 0 (isP_start _) j
    rw [BSt.own_bare] at e2
    rw [e2]
    exact hwj
  · rintro e w' ⟨rfl, _, a2, a3, a4⟩
    rw [hst] at a2
    generalize ((BM P).runN (startP [(nx : Int)]) s.bare 0 (18 + 7 * b.length)).2.1 = s1 at *
    have hp2 : (bx', fs') = ((nx : Int) :: (helpL d b f).1, (helpL d b f).2) := g2
    injection hp2 with p1 p2
    subst p1
    subst p2
    have hhl := helpL_len d b f
    have a3 : Fr (W3.heap.size :: P.L) P.ws (W3.alloc (.cells #[cv, .int .i64 0] 89)) w' := a3
    have a4 : Mv P.B (P.L ++ P.ex) P.ws (W3.alloc (.cells #[cv, .int .i64 0] 89)) w' := a4
    have hty := hi4.types (Lies.new W3 89 #[cv, .int .i64 0])
    obtain ⟨cs, hl⟩ := hdl
    have hl4 := (hl.turn k (by simp)).turn k4 (by simp)
    have dbo := off_types hl4 hty (by decide) (by decide) (by decide) (by decide)
    have dbr := (hi4.apart_ty hl4 (by decide) (by decide) (by decide) (by decide)).2
    have m1 := (hw3.mv hM k4).trans a4
    have be4 : Below P.B w0 (W3.alloc (.cells #[cv, .int .i64 0] 89)) := hbe.trans ((k.trans k4).below (by simp) (hM.okw _ _ _ h.si).base)
    refine ⟨rfl, ⟨⟨s1.own s.got s.ends, N + 1, T + (18 + 7 * b.length), all ++ [(nx : Int)], q', hs', _, _, d, BI.down hG a2 (by simp only [List.length_cons]; omega), g1.same rfl (by rw [g4]; rfl), g6, by have := h.few; omega, fun a ha => ?_, by rw [List.length_append]; have := h.len; simp; omega, ?_, ?_, fun i hi => ?_⟩, ⟨cs, a3.lies hl4 dbo dbr⟩, (hctx.turns hG h.si k (by simp) (by simp)).mv m1, be4.trans (BI.below hG hi4 (fun y hy => ?_) a3), by omega⟩⟩
    · rcases List.mem_append.1 ha with h1 | h1
      · have := h.new a h1; omega
      · rw [List.mem_singleton] at h1; subst h1; omega
    · exact (hm.turns hG hi3 k4).past hG hi4 a3 hty (.inr rfl)
    · exact (hf.turns hG hi3 k4).past hG hi4 a3 hty (.inr rfl)
    · exact (a3.cell (p := ⟨db, i, none⟩) hl4.lt dbo dbr).trans (((k.trans k4).cell (p := ⟨db, i, none⟩) hl.lt (by simp)).trans (h.dead i hi))
    · rcases List.mem_cons.1 hy with h1 | h1
      · right; rw [h1]; exact hw3.base
      · exact .inl h1
end

end Go.Proofs.Ythkklcmmbpffiaa
