/- New: the plan of a configuration. -/
import Derived.Test.YtgbepebihlmedaaDoorP5
namespace Go.Proofs.YtgbepebihlmedaaDoor
open Go.RowKit

/-- a plan's cells: the configuration, the slots of a level, four rows. -/
def pc (C : Nat → Int) (s f0 e0 n0 f1 e1 n1 f2 e2 n2 f3 e3 n3 : Int) : Array Value := #[.int .i64 (C 0), .int .i64 (C 1), .int .i64 (C 2), .int .i64 (C 3), .int .i64 (C 4), .int .i64 (C 5), .int .i64 (C 6), .int .i64 (C 7), .int .i64 (C 8), .int .i64 (C 9), .int .i64 (C 10), .int .i64 (C 11), .int .i64 (C 12),
  .int .i64 s, .int .i64 f0, .int .i64 e0, .int .i64 n0, .int .i64 f1, .int .i64 e1, .int .i64 n1, .int .i64 f2, .int .i64 e2, .int .i64 n2, .int .i64 f3, .int .i64 e3, .int .i64 n3]

/-- a plan lies at block p. -/
def PlanAt (w : World) (p : Nat) (C : Nat → Int) : Prop := Lies w p 70 (pc C (plS C) 3 (plE C) (C 0) (plA C) 4 (C 3) (plB C) 3 (C 4) (plD C) 1 (C 7))

theorem wrapJ (n : Int) (h : -9223372036854775808 ≤ n ∧ n ≤ 9223372036854775807) : wrap64 n = n := by unfold wrap64; omega
theorem plE_wrap (C : Nat → Int) (h1 : 1 ≤ C 1 ∧ C 1 ≤ 8) (s : 1 ≤ plS C ∧ plS C ≤ 64) : IntKind.i64.wrap (3 + IntKind.i64.wrap (C 1 * IntKind.i64.wrap (1 + plS C))) = plE C := by
  have m1 := mul_bd (a := C 1) (b := 1 + plS C) (x := 8) (y := 65) (by omega) h1.2 (by omega) (by omega)
  rw [wrapI (1 + plS C) (by omega), wrapI (C 1 * _) (by omega), wrapI _ (by omega), plE]
theorem Lies.set3 {w : World} {g : Nat} {t : TypeId} {cs : Array Value} (h : Lies w g t cs) (i : Nat) (a b c : Value) :
    Lies (((w.setCell ⟨g, i, none⟩ a).setCell ⟨g, i + 1, none⟩ b).setCell ⟨g, i + 2, none⟩ c) g t (((cs.setIfInBounds i a).setIfInBounds (i + 1) b).setIfInBounds (i + 2) c) := ((h.set i a).set (i + 1) b).set (i + 2) c
theorem Turns.set3 {w : World} {g : Nat} (i : Nat) (a b c : Value) : Turns [g] w (((w.setCell ⟨g, i, none⟩ a).setCell ⟨g, i + 1, none⟩ b).setCell ⟨g, i + 2, none⟩ c) :=
  (((Turns.refl [g] w).setCell (.inl (by simp)) _).setCell (.inl (by simp)) _).setCell (.inl (by simp)) _

theorem new_no (C : Nat → Int) (w : World) (ht : Tab w) (h : ¬ Right C) :
    Calls Tryd.prog 12 #[.agg (ic C)] w fun r w' => r = .returned (.tuple #[.pointer none, .int .i64 7]) ∧ Below w.heap.size w w' := by
  have h0 : chkE C = 7 := by
    rcases right_or C with h1 | ⟨m, h1, h2, h3⟩
    · exact absurd h1 h
    · exact (chk_bad h2 h3 h1).2
  have H := Lib.hid h0
  clear h0
  go_enter Tryd.func12, Tryd.ntmps12
  unfold ic
  go_wp2_with fail
  refine (check_any C _ (ht.keep ((Below.refl w.heap.size w).alloc (Nat.le_refl _) _) ht.lt)).mono ?_
  rintro e w' ⟨rfl, hb⟩
  have hb0 := Lib.hid (((Below.refl w.heap.size w).alloc (Nat.le_refl _) _).trans (hb.mono (by simp)))
  clear hb
  rw [H.out]
  go_wp2
  go_ret2
  exact ⟨rfl, hb0.out⟩

set_option maxRecDepth 100000 in
set_option maxHeartbeats 4000000 in
theorem new_yes (C : Nat → Int) (w : World) (ht : Tab w) (h : Right C) :
    Calls Tryd.prog 12 #[.agg (ic C)] w fun r w' => ∃ p, r = .returned (.tuple #[.pointer (some ⟨p, 0, none⟩), .int .i64 0]) ∧ w.heap.size ≤ p ∧ PlanAt w' p C ∧ Below w.heap.size w w' := by
  have H := Lib.hid (chk_ok h).2
  obtain ⟨c0, c1, c2, c3, c4, c6, c7, s, e, a, b, d, z⟩ := bds h
  have hp := pw_pos (C 2)
  have hq : pw (C 2) ≤ 64 := s.2
  clear h z s
  go_enter Tryd.func12, Tryd.ntmps12
  unfold ic
  go_wp2_with fail
  refine (check_any C _ (ht.keep ((Below.refl w.heap.size w).alloc (Nat.le_refl _) _) ht.lt)).mono ?_
  rintro e w' ⟨rfl, hb⟩
  have hb0 := Lib.hid (((Below.refl w.heap.size w).alloc (Nat.le_refl _) _).trans (hb.mono (by simp)))
  have hl := (Lies.new w 26 (ic C)).below hb (by simp)
  clear hb
  rw [H.out]
  have hB := hl.lt
  generalize hBe : w.heap.size = B at *
  have HBE := Lib.hid hBe
  clear hBe
  have HE := Lib.hid (plE_wrap C c1 (show 1 ≤ plS C ∧ plS C ≤ 64 from ⟨hp, hq⟩))
  have m0 := mul_bd (a := C 0) (b := plE C) (x := 64) (y := 523) (by omega) c0.2 (by omega) e.2
  have HSJ := Lib.hid (show wrap64 (2 ^ (C 2).toNat) = plS C from wrapJ (pw (C 2)) (by omega))
  have HSH := Lib.hid (show IntKind.i64.wrap (2 ^ (C 2).toNat) = plS C from wrapI (pw (C 2)) (by omega))
  obtain ⟨d0, d1, d2, d3, d4, d5, d6, d7, d8, d9, d10, d11, d12⟩ := hl.thir
  go_wp2_with fail
  go_still_tail 5, (by kernel_rfl)
  change wpList _ _ _ _ _ w'.drew
  replace hl := hl.drew
  have hb1 := Lib.hid hb0.out.drew
  clear d0 d1 d2 d3 d4 d5 d6 d7 d8 d9 d10 d11 d12 hb0 hp hq
  have hB1 : B < w'.drew.heap.size := hB
  clear hB
  generalize w'.drew = w2 at *
  go_wp2_with fail
  rw [HSH.out]
  rw [HSJ.out]
  have hpl : Lies (w2.alloc (.cells #[.int .i64 (C 0), .int .i64 (C 1), .int .i64 (C 2), .int .i64 (C 3), .int .i64 (C 4), .int .i64 (C 5), .int .i64 (C 6), .int .i64 (C 7), .int .i64 (C 8), .int .i64 (C 9), .int .i64 (C 10), .int .i64 (C 11), .int .i64 (C 12), .int .i64 (plS C), .int .i64 0, .int .i64 0, .int .i64 0, .int .i64 0, .int .i64 0, .int .i64 0, .int .i64 0, .int .i64 0, .int .i64 0, .int .i64 0, .int .i64 0, .int .i64 0] 70)) w2.heap.size 70 (pc C (plS C) 0 0 0 0 0 0 0 0 0 0 0 0) := Lies.new _ _ _
  replace hl := hl.alloc (.cells #[.int .i64 (C 0), .int .i64 (C 1), .int .i64 (C 2), .int .i64 (C 3), .int .i64 (C 4), .int .i64 (C 5), .int .i64 (C 6), .int .i64 (C 7), .int .i64 (C 8), .int .i64 (C 9), .int .i64 (C 10), .int .i64 (C 11), .int .i64 (C 12), .int .i64 (plS C), .int .i64 0, .int .i64 0, .int .i64 0, .int .i64 0, .int .i64 0, .int .i64 0, .int .i64 0, .int .i64 0, .int .i64 0, .int .i64 0, .int .i64 0, .int .i64 0] 70)
  replace hb1 := Lib.hid (hb1.out.alloc (by omega) (.cells #[.int .i64 (C 0), .int .i64 (C 1), .int .i64 (C 2), .int .i64 (C 3), .int .i64 (C 4), .int .i64 (C 5), .int .i64 (C 6), .int .i64 (C 7), .int .i64 (C 8), .int .i64 (C 9), .int .i64 (C 10), .int .i64 (C 11), .int .i64 (C 12), .int .i64 (plS C), .int .i64 0, .int .i64 0, .int .i64 0, .int .i64 0, .int .i64 0, .int .i64 0, .int .i64 0, .int .i64 0, .int .i64 0, .int .i64 0, .int .i64 0, .int .i64 0] 70))
  generalize w2.alloc (.cells #[.int .i64 (C 0), .int .i64 (C 1), .int .i64 (C 2), .int .i64 (C 3), .int .i64 (C 4), .int .i64 (C 5), .int .i64 (C 6), .int .i64 (C 7), .int .i64 (C 8), .int .i64 (C 9), .int .i64 (C 10), .int .i64 (C 11), .int .i64 (C 12), .int .i64 (plS C), .int .i64 0, .int .i64 0, .int .i64 0, .int .i64 0, .int .i64 0, .int .i64 0, .int .i64 0, .int .i64 0, .int .i64 0, .int .i64 0, .int .i64 0, .int .i64 0] 70) = w3 at *
  generalize w2.heap.size = P at *
  have d0 := hl.cell 0
  have d1 := hl.cell 1
  have p13 := hpl.cell 13
  have p14 := hpl.cell 14
  have p15 := hpl.cell 15
  have p16 := hpl.cell 16
  have q14 := hpl.frozen 14
  have q15 := hpl.frozen 15
  have q16 := hpl.frozen 16
  simp [ic, pc] at d0 d1 p13 p14 p15 p16
  go_still_tail 13, (by kernel_rfl)
  rw [HE.out]
  change wpList _ _ _ _ _ w3.drew
  replace hl := hl.drew
  replace hpl := hpl.drew
  replace hb1 := Lib.hid hb1.out.drew
  clear d0 d1 p13
  change w3.drew.cell? _ = _ at p14 p15 p16
  change w3.drew.frozen? _ = _ at q14 q15 q16
  generalize w3.drew = w4 at *
  go_wp2_with fail
  have ht5 : Turns [P] w4 (((w4.setCell ⟨P, 14, none⟩ (.int .i64 3)).setCell ⟨P, 15, none⟩ (.int .i64 (plE C))).setCell ⟨P, 16, none⟩ (.int .i64 (C 0))) := Turns.set3 14 _ _ _
  replace hpl : Lies (((w4.setCell ⟨P, 14, none⟩ (.int .i64 3)).setCell ⟨P, 15, none⟩ (.int .i64 (plE C))).setCell ⟨P, 16, none⟩ (.int .i64 (C 0))) P 70 (pc C (plS C) 3 (plE C) (C 0) 0 0 0 0 0 0 0 0 0) := hpl.set3 14 _ _ _
  clear p14 p15 p16 q14 q15 q16
  generalize ((w4.setCell ⟨P, 14, none⟩ (.int .i64 3)).setCell ⟨P, 15, none⟩ (.int .i64 (plE C))).setCell ⟨P, 16, none⟩ (.int .i64 (C 0)) = w5 at *
  replace hb1 := Lib.hid (hb1.out.trans (ht5.below (B := B) (by simp; omega) (by have := hl.lt; omega)))
  replace hl := hl.turn ht5 (by simp; omega)
  clear ht5
  have d0j := hl.cell 3
  have p00 := hpl.cell 14
  have p01 := hpl.cell 15
  have p02 := hpl.cell 16
  simp [ic, pc] at d0j p00 p01 p02
  go_region_held3 (fun W' => W'.cell? ⟨B, 3, none⟩ = some (.int .i64 (C 3)) ∧ W'.cell? ⟨P, 14, none⟩ = some (.int .i64 3) ∧ W'.cell? ⟨P, 15, none⟩ = some (.int .i64 (plE C)) ∧ W'.cell? ⟨P, 16, none⟩ = some (.int .i64 (C 0)))
    (first | exact ⟨d0j, p00, p01, p02⟩ | exact ⟨x0j, x00, x01, x02⟩ | exact ⟨y0j, y00, y01, y02⟩)
    (first
      | (go_at_call 48
         refine (end_any 3 (plE C) (C 0) _ (by omega) (by omega) (by omega) (by omega)).mono ?_
         rintro e v0 ⟨rfl, hv0⟩
         rw [show 3 + (C 0) * (plE C) = (plA C) from rfl]
         have hl0 : Lies v0 B 26 (ic C) := by rw [← hv0]; exact hl.drew.alloc _
         have hpl0 : Lies v0 P 70 (pc C (plS C) 3 (plE C) (C 0) 0 0 0 0 0 0 0 0 0) := by rw [← hv0]; exact hpl.drew.alloc _
         have hb0v : Below w5.heap.size w5 v0 := by rw [← hv0]; exact (Below.refl _ _).drew.alloc (Nat.le_refl _) _
         clear hv0
         have hm0 : Lies (((v0.setCell ⟨P, 17, none⟩ (.int .i64 (plA C))).setCell ⟨P, 18, none⟩ (.int .i64 4)).setCell ⟨P, 19, none⟩ (.int .i64 (C 3))) B 26 (ic C) := hl0.turn (Turns.set3 (g := P) 17 _ _ _) (by simp; omega)
         have hpm0 : Lies (((v0.setCell ⟨P, 17, none⟩ (.int .i64 (plA C))).setCell ⟨P, 18, none⟩ (.int .i64 4)).setCell ⟨P, 19, none⟩ (.int .i64 (C 3))) P 70 (pc C (plS C) 3 (plE C) (C 0) (plA C) 4 (C 3) 0 0 0 0 0 0) := hpl0.set3 17 _ _ _
         have x0j := hl0.cell 3
         have x00 := hpl0.cell 14
         have x01 := hpl0.cell 15
         have x02 := hpl0.cell 16
         have x03 := hpl0.cell 17
         have x04 := hpl0.cell 18
         have x05 := hpl0.cell 19
         have z03 := hpl0.frozen 17
         have z04 := hpl0.frozen 18
         have z05 := hpl0.frozen 19
         simp [ic, pc] at x0j x00 x01 x02 x03 x04 x05
         have y0j := (hm0.cell 3).trans (ic_at C 3 (by omega))
         have y00 := (hpm0.cell 14).trans (show _ = some (Value.int .i64 3) from rfl)
         have y01 := (hpm0.cell 15).trans (show _ = some (Value.int .i64 (plE C)) from rfl)
         have y02 := (hpm0.cell 16).trans (show _ = some (Value.int .i64 (C 0)) from rfl)))
  have ht0 : Turns [P] v0 (((v0.setCell ⟨P, 17, none⟩ (.int .i64 (plA C))).setCell ⟨P, 18, none⟩ (.int .i64 4)).setCell ⟨P, 19, none⟩ (.int .i64 (C 3))) := Turns.set3 17 _ _ _
  replace hb1 := Lib.hid ((hb1.out.trans (hb0v.mono (by have := hl.lt; omega))).trans (ht0.below (B := B) (by simp; omega) (by have := hl0.lt; omega)))
  clear ht0 d0j p00 p01 p02 x0j x00 x01 x02 x03 x04 x05 z03 z04 z05 y0j y00 y01 y02 hl0 hpl0 hb0v hl hpl
  have hl := hm0
  have hpl := hpm0
  clear hm0 hpm0
  generalize ((v0.setCell ⟨P, 17, none⟩ (.int .i64 (plA C))).setCell ⟨P, 18, none⟩ (.int .i64 4)).setCell ⟨P, 19, none⟩ (.int .i64 (C 3)) = w6 at *
  go_wp2_with fail
  have d1j := hl.cell 4
  have p10 := hpl.cell 17
  have p11 := hpl.cell 18
  have p12 := hpl.cell 19
  simp [ic, pc] at d1j p10 p11 p12
  go_region_held3 (fun W' => W'.cell? ⟨B, 4, none⟩ = some (.int .i64 (C 4)) ∧ W'.cell? ⟨P, 17, none⟩ = some (.int .i64 (plA C)) ∧ W'.cell? ⟨P, 18, none⟩ = some (.int .i64 4) ∧ W'.cell? ⟨P, 19, none⟩ = some (.int .i64 (C 3)))
    (first | exact ⟨d1j, p10, p11, p12⟩ | exact ⟨x1j, x10, x11, x12⟩ | exact ⟨y1j, y10, y11, y12⟩)
    (first
      | (go_at_call 48
         refine (end_any (plA C) 4 (C 3) _ (by omega) (by omega) (by omega) (by omega)).mono ?_
         rintro e v1 ⟨rfl, hv1⟩
         rw [show (plA C) + (C 3) * 4 = (plB C) from rfl]
         have hl1 : Lies v1 B 26 (ic C) := by rw [← hv1]; exact hl.drew.alloc _
         have hpl1 : Lies v1 P 70 (pc C (plS C) 3 (plE C) (C 0) (plA C) 4 (C 3) 0 0 0 0 0 0) := by rw [← hv1]; exact hpl.drew.alloc _
         have hb1v : Below w6.heap.size w6 v1 := by rw [← hv1]; exact (Below.refl _ _).drew.alloc (Nat.le_refl _) _
         clear hv1
         have hm1 : Lies (((v1.setCell ⟨P, 20, none⟩ (.int .i64 (plB C))).setCell ⟨P, 21, none⟩ (.int .i64 3)).setCell ⟨P, 22, none⟩ (.int .i64 (C 4))) B 26 (ic C) := hl1.turn (Turns.set3 (g := P) 20 _ _ _) (by simp; omega)
         have hpm1 : Lies (((v1.setCell ⟨P, 20, none⟩ (.int .i64 (plB C))).setCell ⟨P, 21, none⟩ (.int .i64 3)).setCell ⟨P, 22, none⟩ (.int .i64 (C 4))) P 70 (pc C (plS C) 3 (plE C) (C 0) (plA C) 4 (C 3) (plB C) 3 (C 4) 0 0 0) := hpl1.set3 20 _ _ _
         have x1j := hl1.cell 4
         have x10 := hpl1.cell 17
         have x11 := hpl1.cell 18
         have x12 := hpl1.cell 19
         have x13 := hpl1.cell 20
         have x14 := hpl1.cell 21
         have x15 := hpl1.cell 22
         have z13 := hpl1.frozen 20
         have z14 := hpl1.frozen 21
         have z15 := hpl1.frozen 22
         simp [ic, pc] at x1j x10 x11 x12 x13 x14 x15
         have y1j := (hm1.cell 4).trans (ic_at C 4 (by omega))
         have y10 := (hpm1.cell 17).trans (show _ = some (Value.int .i64 (plA C)) from rfl)
         have y11 := (hpm1.cell 18).trans (show _ = some (Value.int .i64 4) from rfl)
         have y12 := (hpm1.cell 19).trans (show _ = some (Value.int .i64 (C 3)) from rfl)))
  have ht1 : Turns [P] v1 (((v1.setCell ⟨P, 20, none⟩ (.int .i64 (plB C))).setCell ⟨P, 21, none⟩ (.int .i64 3)).setCell ⟨P, 22, none⟩ (.int .i64 (C 4))) := Turns.set3 20 _ _ _
  replace hb1 := Lib.hid ((hb1.out.trans (hb1v.mono (by have := hl.lt; omega))).trans (ht1.below (B := B) (by simp; omega) (by have := hl1.lt; omega)))
  clear ht1 d1j p10 p11 p12 x1j x10 x11 x12 x13 x14 x15 z13 z14 z15 y1j y10 y11 y12 hl1 hpl1 hb1v hl hpl
  have hl := hm1
  have hpl := hpm1
  clear hm1 hpm1
  generalize ((v1.setCell ⟨P, 20, none⟩ (.int .i64 (plB C))).setCell ⟨P, 21, none⟩ (.int .i64 3)).setCell ⟨P, 22, none⟩ (.int .i64 (C 4)) = w7 at *
  go_wp2_with fail
  have d2j := hl.cell 7
  have p20 := hpl.cell 20
  have p21 := hpl.cell 21
  have p22 := hpl.cell 22
  simp [ic, pc] at d2j p20 p21 p22
  go_region_held3 (fun W' => W'.cell? ⟨B, 7, none⟩ = some (.int .i64 (C 7)) ∧ W'.cell? ⟨P, 20, none⟩ = some (.int .i64 (plB C)) ∧ W'.cell? ⟨P, 21, none⟩ = some (.int .i64 3) ∧ W'.cell? ⟨P, 22, none⟩ = some (.int .i64 (C 4)))
    (first | exact ⟨d2j, p20, p21, p22⟩ | exact ⟨x2j, x20, x21, x22⟩ | exact ⟨y2j, y20, y21, y22⟩)
    (first
      | (go_at_call 48
         refine (end_any (plB C) 3 (C 4) _ (by omega) (by omega) (by omega) (by omega)).mono ?_
         rintro e v2 ⟨rfl, hv2⟩
         rw [show (plB C) + (C 4) * 3 = (plD C) from rfl]
         have hl2 : Lies v2 B 26 (ic C) := by rw [← hv2]; exact hl.drew.alloc _
         have hpl2 : Lies v2 P 70 (pc C (plS C) 3 (plE C) (C 0) (plA C) 4 (C 3) (plB C) 3 (C 4) 0 0 0) := by rw [← hv2]; exact hpl.drew.alloc _
         have hb2v : Below w7.heap.size w7 v2 := by rw [← hv2]; exact (Below.refl _ _).drew.alloc (Nat.le_refl _) _
         clear hv2
         have hm2 : Lies (((v2.setCell ⟨P, 23, none⟩ (.int .i64 (plD C))).setCell ⟨P, 24, none⟩ (.int .i64 1)).setCell ⟨P, 25, none⟩ (.int .i64 (C 7))) B 26 (ic C) := hl2.turn (Turns.set3 (g := P) 23 _ _ _) (by simp; omega)
         have hpm2 : Lies (((v2.setCell ⟨P, 23, none⟩ (.int .i64 (plD C))).setCell ⟨P, 24, none⟩ (.int .i64 1)).setCell ⟨P, 25, none⟩ (.int .i64 (C 7))) P 70 (pc C (plS C) 3 (plE C) (C 0) (plA C) 4 (C 3) (plB C) 3 (C 4) (plD C) 1 (C 7)) := hpl2.set3 23 _ _ _
         have x2j := hl2.cell 7
         have x20 := hpl2.cell 20
         have x21 := hpl2.cell 21
         have x22 := hpl2.cell 22
         have x23 := hpl2.cell 23
         have x24 := hpl2.cell 24
         have x25 := hpl2.cell 25
         have z23 := hpl2.frozen 23
         have z24 := hpl2.frozen 24
         have z25 := hpl2.frozen 25
         simp [ic, pc] at x2j x20 x21 x22 x23 x24 x25
         have y2j := (hm2.cell 7).trans (ic_at C 7 (by omega))
         have y20 := (hpm2.cell 20).trans (show _ = some (Value.int .i64 (plB C)) from rfl)
         have y21 := (hpm2.cell 21).trans (show _ = some (Value.int .i64 3) from rfl)
         have y22 := (hpm2.cell 22).trans (show _ = some (Value.int .i64 (C 4)) from rfl)))
  have ht2 : Turns [P] v2 (((v2.setCell ⟨P, 23, none⟩ (.int .i64 (plD C))).setCell ⟨P, 24, none⟩ (.int .i64 1)).setCell ⟨P, 25, none⟩ (.int .i64 (C 7))) := Turns.set3 23 _ _ _
  replace hb1 := Lib.hid ((hb1.out.trans (hb2v.mono (by have := hl.lt; omega))).trans (ht2.below (B := B) (by simp; omega) (by have := hl2.lt; omega)))
  clear ht2 d2j p20 p21 p22 x2j x20 x21 x22 x23 x24 x25 z23 z24 z25 y2j y20 y21 y22 hl2 hpl2 hb2v hl hpl
  have hl := hm2
  have hpl := hpm2
  clear hm2 hpm2
  generalize ((v2.setCell ⟨P, 23, none⟩ (.int .i64 (plD C))).setCell ⟨P, 24, none⟩ (.int .i64 1)).setCell ⟨P, 25, none⟩ (.int .i64 (C 7)) = w8 at *
  go_wp2
  go_ret2
  exact ⟨P, rfl, by rw [HBE.out]; omega, hpl, by rw [HBE.out]; exact hb1.out⟩

end Go.Proofs.YtgbepebihlmedaaDoor
