/- The law: unlike numbers have unlike words. -/
import Derived.Test.YtihagkngjnblaaaW4
import Derived.Test.YtihagkngjnblaaaInj
import Derived.Deep.DeepCutAuto
import Derived.ChangeKeysEq
namespace Go.Proofs.Ytihagkngjnblaaa
open Go.RowKit

/-- the two arrays, boxed. -/
abbrev boxed (a0 a1 a2 a3 b0 b1 b2 b3 : Int) (w : World) : World :=
  (w.alloc (.cells #[.int .i64 a0, .int .i64 a1, .int .i64 a2, .int .i64 a3] 57)).alloc (.cells #[.int .i64 b0, .int .i64 b1, .int .i64 b2, .int .i64 b3] 57)

/-- they read as they did. -/
structure Boxes (a0 a1 a2 a3 b0 b1 b2 b3 : Int) (n : Nat) (w : World) : Prop where
  c0 : w.cell? ⟨n, 0, none⟩ = some (.int .i64 a0)
  c1 : w.cell? ⟨n, 1, none⟩ = some (.int .i64 a1)
  c2 : w.cell? ⟨n, 2, none⟩ = some (.int .i64 a2)
  c3 : w.cell? ⟨n, 3, none⟩ = some (.int .i64 a3)
  d0 : w.cell? ⟨n + 1, 0, none⟩ = some (.int .i64 b0)
  d1 : w.cell? ⟨n + 1, 1, none⟩ = some (.int .i64 b1)
  d2 : w.cell? ⟨n + 1, 2, none⟩ = some (.int .i64 b2)
  d3 : w.cell? ⟨n + 1, 3, none⟩ = some (.int .i64 b3)

theorem boxes (a0 a1 a2 a3 b0 b1 b2 b3 : Int) (w w' : World) (h : Below (w.heap.size + 2) (boxed a0 a1 a2 a3 b0 b1 b2 b3 w) w') :
    Boxes a0 a1 a2 a3 b0 b1 b2 b3 w.heap.size w' := by
  constructor
  all_goals rw [h.cell (by dsimp only; omega)]
  all_goals simp [boxed]

theorem below_boxed {a0 a1 a2 a3 b0 b1 b2 b3 : Int} {w w' : World} (h : Below (w.heap.size + 2) (boxed a0 a1 a2 a3 b0 b1 b2 b3 w) w') : Below w.heap.size w w' :=
  (((Below.refl _ _).alloc (Nat.le_refl _) _).alloc (by simp) _).trans (h.mono (by omega))

theorem below_next {n : Nat} {W w1 w2 : World} (h : Below n W w1) (hn : n ≤ W.heap.size) (g : Below w1.heap.size w1 w2) : Below n W w2 :=
  h.trans (g.mono (Nat.le_trans hn h.size))

theorem eql57 (a0 a1 a2 a3 b0 b1 b2 b3 : Int) (w : World) :
   (binOp .eql 57 (.agg #[.int .i64 a0, .int .i64 a1, .int .i64 a2, .int .i64 a3]) (.agg #[.int .i64 b0, .int .i64 b1, .int .i64 b2, .int .i64 b3])).run Try.prog w =
    .ok (.bool (a0 == b0 && (a1 == b1 && (a2 == b2 && a3 == b3)))) w := by
  rw [run_eql_struct]
  obtain ⟨i, hi⟩ : ∃ i, Try.prog.info? 3 = some i := ⟨_, rfl⟩
  rw [show (10000 : Nat) = 9999 + 1 from rfl, run_equalIn_array w 9999 _ _ Try.underlying57 hi, show Try.prog.cellsOf 3 = 1 by kernel_rfl]
  simp [Op.eqItems, List.range, List.range.loop, go_sem]
  by_cases h0 : a0 = b0 <;> by_cases h1 : a1 = b1 <;> by_cases h2 : a2 = b2 <;> by_cases h3 : a3 = b3 <;> simp [h0, h1, h2, h3]

set_option maxRecDepth 100000 in
set_option maxHeartbeats 1000000 in
theorem unlike_law (a0 a1 a2 a3 b0 b1 b2 b3 : Int) (w : World) (ha0 : I64 a0) (ha1 : I64 a1) (ha2 : I64 a2) (ha3 : I64 a3) (hb0 : I64 b0) (hb1 : I64 b1) (hb2 : I64 b2) (hb3 : I64 b3) :
    Calls Try.prog 7 #[.agg #[.int .i64 a0, .int .i64 a1, .int .i64 a2, .int .i64 a3], .agg #[.int .i64 b0, .int .i64 b1, .int .i64 b2, .int .i64 b3]] w fun e w' => e = .returned (.bool true) ∧ Below w.heap.size w w' := by
  have hW : Below (w.heap.size + 2) (boxed a0 a1 a2 a3 b0 b1 b2 b3 w) (boxed a0 a1 a2 a3 b0 b1 b2 b3 w) := Below.refl _ _
  have hz : w.heap.size + 2 ≤ (boxed a0 a1 a2 a3 b0 b1 b2 b3 w).heap.size := by simp [boxed]
  have HW := Lib.hid hW
  have HZ := Lib.hid hz
  clear hW hz
  have hS := fun h => same3 (a0 := a0) (a1 := a1) (a2 := a2) (b0 := b0) (b1 := b1) (b2 := b2) (x := 32) (y := 30) (z := 2) h
  have hH := fun h => same3 (a0 := a0) (a1 := a1) (a2 := a2) (b0 := b0) (b1 := b1) (b2 := b2) (x := 32) (y := 16) (z := 16) h
  have hX := fun h => same4 (a0 := a0) (a1 := a1) (a2 := a2) (a3 := a3) (b0 := b0) (b1 := b1) (b2 := b2) (b3 := b3) (x := 26) (y := 5) (z := 3) (u := 30) h
  have hL := fun h => same2 (a0 := a0) (a1 := wrap64 (a1 + 1)) (b0 := b0) (b1 := wrap64 (b1 + 1)) (x := 32) (y := 32) h
  have hwr : (wrap64 (a1 + 1) == wrap64 (b1 + 1)) = (a1 == b1) := by
    rw [Bool.eq_iff_iff]; simp only [beq_iff_eq]; unfold wrap64; omega
  rw [hwr] at hL
  clear hwr
  change packE _ stateWs + packE _ stateWs = 0 → (packW _ stateWs == packW _ stateWs) = _ at hS
  change packE _ homeWs + packE _ homeWs = 0 → (packW _ homeWs == packW _ homeWs) = _ at hH
  change packE _ connWs + packE _ connWs = 0 → (packW _ connWs == packW _ connWs) = _ at hX
  change packE _ headWs + packE _ headWs = 0 → (packW _ headWs == packW _ headWs) = _ at hL
  have beA := packE_bd [a0, a1, a2, 0] stateWs
  have beB := packE_bd [b0, b1, b2, 0] stateWs
  have bfA := packE_bd [a0, a1, a2, 0] homeWs
  have bfB := packE_bd [b0, b1, b2, 0] homeWs
  have bgA := packE_bd [a0, a1, a2, a3] connWs
  have bgB := packE_bd [b0, b1, b2, b3] connWs
  have bkA := packE_bd [a0, wrap64 (a1 + 1), 0, 0] headWs
  have bkB := packE_bd [b0, wrap64 (b1 + 1), 0, 0] headWs
  generalize esA : packW [a0, a1, a2, 0] stateWs = sA at *
  generalize eeA : packE [a0, a1, a2, 0] stateWs = eA at *
  have EsA := Lib.hid esA
  have EeA := Lib.hid eeA
  clear esA eeA
  generalize esB : packW [b0, b1, b2, 0] stateWs = sB at *
  generalize eeB : packE [b0, b1, b2, 0] stateWs = eB at *
  have EsB := Lib.hid esB
  have EeB := Lib.hid eeB
  clear esB eeB
  generalize ehA : packW [a0, a1, a2, 0] homeWs = hA at *
  generalize efA : packE [a0, a1, a2, 0] homeWs = fA at *
  have EhA := Lib.hid ehA
  have EfA := Lib.hid efA
  clear ehA efA
  generalize ehB : packW [b0, b1, b2, 0] homeWs = hB at *
  generalize efB : packE [b0, b1, b2, 0] homeWs = fB at *
  have EhB := Lib.hid ehB
  have EfB := Lib.hid efB
  clear ehB efB
  generalize exA : packW [a0, a1, a2, a3] connWs = xA at *
  generalize egA : packE [a0, a1, a2, a3] connWs = gA at *
  have ExA := Lib.hid exA
  have EgA := Lib.hid egA
  clear exA egA
  generalize exB : packW [b0, b1, b2, b3] connWs = xB at *
  generalize egB : packE [b0, b1, b2, b3] connWs = gB at *
  have ExB := Lib.hid exB
  have EgB := Lib.hid egB
  clear exB egB
  generalize elA : packW [a0, wrap64 (a1 + 1), 0, 0] headWs = lA at *
  generalize ekA : packE [a0, wrap64 (a1 + 1), 0, 0] headWs = kA at *
  have ElA := Lib.hid elA
  have EkA := Lib.hid ekA
  clear elA ekA
  generalize elB : packW [b0, wrap64 (b1 + 1), 0, 0] headWs = lB at *
  generalize ekB : packE [b0, wrap64 (b1 + 1), 0, 0] headWs = kB at *
  have ElB := Lib.hid elB
  have EkB := Lib.hid ekB
  clear elB ekB
  have HS := Lib.hid hS
  have HH := Lib.hid hH
  have HX := Lib.hid hX
  have HL := Lib.hid hL
  clear hS hH hX hL
  go_enter Try.func7, Try.ntmps7
  go_wp2_with fail
  refine (speaks_any _).mono ?_
  rintro e w1 ⟨rfl, hbel⟩
  have HB := Lib.hid (below_next HW.out HZ.out hbel)
  clear hbel HW
  obtain ⟨c0, c1, c2, c3, d0, d1, d2, d3⟩ := boxes _ _ _ _ _ _ _ _ _ _ HB.out
  go_wp2_with fail
  refine (state_word _ _ _ _ ha0 ha1 ha2).mono ?_
  rintro e w2 ⟨rfl, hbel⟩
  rw [EsA.out, EeA.out]
  have HB2 := Lib.hid (below_next HB.out HZ.out hbel)
  clear hbel HB c0 c1 c2 c3 d0 d1 d2 d3
  obtain ⟨c0, c1, c2, c3, d0, d1, d2, d3⟩ := boxes _ _ _ _ _ _ _ _ _ _ HB2.out
  go_wp2_with fail
  refine (state_word _ _ _ _ hb0 hb1 hb2).mono ?_
  rintro e w3 ⟨rfl, hbel⟩
  rw [EsB.out, EeB.out]
  have HB3 := Lib.hid (below_next HB2.out HZ.out hbel)
  clear hbel HB2 c0 c1 c2 c3 d0 d1 d2 d3
  obtain ⟨c0, c1, c2, c3, d0, d1, d2, d3⟩ := boxes _ _ _ _ _ _ _ _ _ _ HB3.out
  go_wp2_with fail
  refine (home_word _ _ _ _ ha0 ha1 ha2).mono ?_
  rintro e w4 ⟨rfl, hbel⟩
  rw [EhA.out, EfA.out]
  have HB4 := Lib.hid (below_next HB3.out HZ.out hbel)
  clear hbel HB3 c0 c1 c2 c3 d0 d1 d2 d3
  obtain ⟨c0, c1, c2, c3, d0, d1, d2, d3⟩ := boxes _ _ _ _ _ _ _ _ _ _ HB4.out
  go_wp2_with fail
  refine (home_word _ _ _ _ hb0 hb1 hb2).mono ?_
  rintro e w5 ⟨rfl, hbel⟩
  rw [EhB.out, EfB.out]
  have HB5 := Lib.hid (below_next HB4.out HZ.out hbel)
  clear hbel HB4 c0 c1 c2 c3 d0 d1 d2 d3
  obtain ⟨c0, c1, c2, c3, d0, d1, d2, d3⟩ := boxes _ _ _ _ _ _ _ _ _ _ HB5.out
  go_wp2_with fail
  refine (conn_word _ _ _ _ _ ha0 ha1 ha2 ha3).mono ?_
  rintro e w6 ⟨rfl, hbel⟩
  rw [ExA.out, EgA.out]
  have HB6 := Lib.hid (below_next HB5.out HZ.out hbel)
  clear hbel HB5 c0 c1 c2 c3 d0 d1 d2 d3
  obtain ⟨c0, c1, c2, c3, d0, d1, d2, d3⟩ := boxes _ _ _ _ _ _ _ _ _ _ HB6.out
  go_wp2_with fail
  refine (conn_word _ _ _ _ _ hb0 hb1 hb2 hb3).mono ?_
  rintro e w7 ⟨rfl, hbel⟩
  rw [ExB.out, EgB.out]
  have HB7 := Lib.hid (below_next HB6.out HZ.out hbel)
  clear hbel HB6 c0 c1 c2 c3 d0 d1 d2 d3
  obtain ⟨c0, c1, c2, c3, d0, d1, d2, d3⟩ := boxes _ _ _ _ _ _ _ _ _ _ HB7.out
  go_wp2_with fail
  refine (head_word _ _ _ ha0).mono ?_
  rintro e w8 ⟨rfl, hbel⟩
  rw [ElA.out, EkA.out]
  have HB8 := Lib.hid (below_next HB7.out HZ.out hbel)
  clear hbel HB7 c0 c1 c2 c3 d0 d1 d2 d3
  obtain ⟨c0, c1, c2, c3, d0, d1, d2, d3⟩ := boxes _ _ _ _ _ _ _ _ _ _ HB8.out
  go_wp2_with fail
  refine (head_word _ _ _ hb0).mono ?_
  rintro e w9 ⟨rfl, hbel⟩
  rw [ElB.out, EkB.out]
  have HB9 := Lib.hid (below_next HB8.out HZ.out hbel)
  clear hbel HB8 c0 c1 c2 c3 d0 d1 d2 d3
  obtain ⟨c0, c1, c2, c3, d0, d1, d2, d3⟩ := boxes _ _ _ _ _ _ _ _ _ _ HB9.out
  go_upto_region 11 with fail
  go_cut [0, 21] (fun _ t wc => t = .bool (a0 == b0 && a1 == b1 && a2 == b2) ∧ w9 = wc)
  case first =>
    go_wp2
    all_goals (go_meet; case rel => exact ⟨by simp [*], rfl⟩)
  case rest =>
    obtain ⟨rfl, rfl⟩ := hcut
    generalize ht : (a0 == b0 && a1 == b1 && a2 == b2) = three at *
    have HT := Lib.hid ht
    clear ht
    go_upto_region 12 with fail
    go_cut [154] (fun t wc => t = .bool false ∧ w9 = wc)
    case first =>
      by_cases hE : eA + eB = 0
      · have q1 := HS.out hE
        have hE' : (eA + eB == 0) = true := by simpa using hE
        clear hE
        by_cases hF : fA + fB = 0
        · have q3 := HH.out hF
          have hF' : (fA + fB == 0) = true := by simpa using hF
          clear hF
          go_wp2
          all_goals (go_meet; case rel => exact ⟨by simp [*], rfl⟩)
        · have hF' : (fA + fB == 0) = false := by simpa using hF
          clear hF
          go_wp2
          all_goals (go_meet; case rel => exact ⟨by simp [*], rfl⟩)
      · have hE' : (eA + eB == 0) = false := by simpa using hE
        clear hE
        by_cases hF : fA + fB = 0
        · have q3 := HH.out hF
          have hF' : (fA + fB == 0) = true := by simpa using hF
          clear hF
          go_wp2
          all_goals (go_meet; case rel => exact ⟨by simp [*], rfl⟩)
        · have hF' : (fA + fB == 0) = false := by simpa using hF
          clear hF
          go_wp2
          all_goals (go_meet; case rel => exact ⟨by simp [*], rfl⟩)
    case rest =>
      obtain ⟨rfl, rfl⟩ := hcut
      go_upto_region 14 with fail
      have heq := eql57 a0 a1 a2 a3 b0 b1 b2 b3
      have HF := Lib.hid (below_boxed HB9.out)
      by_cases hG : gA + gB = 0
      · have q1 := HX.out hG
        have hG' : (gA + gB == 0) = true := by simpa using hG
        have hG2 : (gA + gB != 0) = false := by simpa using hG
        clear hG
        by_cases hK : kA + kB = 0
        · have q2 := HL.out hK
          have hK' : (kA + kB == 0) = true := by simpa using hK
          have hK2 : (kA + kB != 0) = false := by simpa using hK
          clear hK
          go_wp2
          all_goals go_ret
          all_goals exact ⟨ret_bool (by simp [*]), HF.out⟩
        · have hK' : (kA + kB == 0) = false := by simpa using hK
          have hK2 : (kA + kB != 0) = true := by simpa using hK
          clear hK
          go_wp2
          all_goals go_ret
          all_goals exact ⟨ret_bool (by simp [*]), HF.out⟩
      · have hG' : (gA + gB == 0) = false := by simpa using hG
        have hG2 : (gA + gB != 0) = true := by simpa using hG
        clear hG
        by_cases hK : kA + kB = 0
        · have q2 := HL.out hK
          have hK' : (kA + kB == 0) = true := by simpa using hK
          have hK2 : (kA + kB != 0) = false := by simpa using hK
          clear hK
          go_wp2
          all_goals go_ret
          all_goals exact ⟨ret_bool (by simp [*]), HF.out⟩
        · have hK' : (kA + kB == 0) = false := by simpa using hK
          have hK2 : (kA + kB != 0) = true := by simpa using hK
          clear hK
          go_wp2
          all_goals go_ret
          all_goals exact ⟨ret_bool (by simp [*]), HF.out⟩

end Go.Proofs.Ytihagkngjnblaaa
