/- The document's Check, Right, Size. -/
import Derived.Test.YtgbepebihlmedaaDoorP4
namespace Go.Proofs.YtgbepebihlmedaaDoor
open Go.RowKit

set_option maxHeartbeats 2000000 in
theorem rcheck_any (C : Nat → Int) (w : World) :
    Calls Tryd.prog 11 #[.agg (ic C)] w fun r w' => r = .returned (.tuple #[.int .i64 (chkI C), .int .i64 (chkE C)]) ∧ Below w.heap.size w w' := by
  go_enter Tryd.func11, Tryd.ntmps11
  go_wp2_with fail
  have hl := Lies.new w 23 (ic C)
  have hb : Below w.heap.size w (w.alloc (.cells (ic C) 23)) := (Below.refl _ _).alloc (Nat.le_refl _) _
  generalize w.alloc (.cells (ic C) 23) = w1 at *
  generalize hB : w.heap.size = B at *
  go_loopw [4] (fun i W => ∃ m : Nat, m ≤ 13 ∧ i = .int .i64 m ∧ (∀ j, j < m → okAt C j) ∧ Lies W B 23 (ic C) ∧ Below B w W) (fun i _ => 13 - (intOf i).toNat)
  case atStart => exact ⟨0, by omega, rfl, fun j hj => by omega, hl, hb⟩
  case round =>
    clear hl hb
    obtain ⟨m, hm, rfl, hok, hl, hb⟩ := hrel
    by_cases hlt : m < 13
    · have hc := hl.cell m
      rw [ic_at C m hlt] at hc
      have L1 := least_any m
      by_cases hgood : okAt C m
      · have hok' : ∀ j, j < m + 1 → okAt C j := fun j hj => by
          rcases (by omega : j < m ∨ j = m) with h | rfl
          · exact hok j h
          · exact hgood
        have HO := Lib.hid hok'
        clear hok hok'
        obtain ⟨g0, g1⟩ := hgood
        have gd : decide (C m < cLo m) = false := decide_eq_false (by omega)
        have ge : decide (cHi m < C m) = false := decide_eq_false (by omega)
        go_wp2_with fail
        go_quiet (first
          | (go_at_call 46; exact Calls.quiet_of_same (least_any m _ hlt))
          | (go_at_call 47; exact Calls.quiet_of_same (most_any m _ hlt)))
        go_wp2
        go_roundw
        case rel => exact ⟨m + 1, by omega, by go_num, HO.out, hl, drawn hb _⟩
        case measure => simp [intOf]; omega
      · obtain ⟨r1, r2⟩ := chk_bad hok hgood hlt
        have HR := Lib.hid r1
        have HS := Lib.hid r2
        have hbad : C m < cLo m ∨ ¬ C m < cLo m ∧ cHi m < C m := by unfold okAt at hgood; omega
        clear hok hgood r1 r2
        rcases hbad with hbad | ⟨hb1, hb2⟩
        · have gd : decide (C m < cLo m) = true := decide_eq_true hbad
          go_wp2_with fail
          go_quiet (first
            | (go_at_call 46; exact Calls.quiet_of_same (least_any m _ hlt))
            | (go_at_call 47; exact Calls.quiet_of_same (most_any m _ hlt)))
          go_wp2
          go_ret2
          exact ⟨ret_two HR.out.symm HS.out.symm, by rw [hB]; exact drawn hb _⟩
        · have gd : decide (C m < cLo m) = false := decide_eq_false hb1
          have ge : decide (cHi m < C m) = true := decide_eq_true hb2
          go_wp2_with fail
          go_quiet (first
            | (go_at_call 46; exact Calls.quiet_of_same (least_any m _ hlt))
            | (go_at_call 47; exact Calls.quiet_of_same (most_any m _ hlt)))
          go_wp2
          go_ret2
          exact ⟨ret_two HR.out.symm HS.out.symm, by rw [hB]; exact drawn hb _⟩
    · obtain rfl : m = 13 := by omega
      obtain ⟨r1, r2⟩ := chk_ok (C := C) hok
      have HR := Lib.hid r1
      have HS := Lib.hid r2
      clear hok r1 r2
      go_wp2
      go_ret2
      exact ⟨ret_two HR.out.symm HS.out.symm, by rw [hB]; exact hb⟩

theorem right_yes (C : Nat → Int) (w : World) (h : Right C) :
    Calls Tryd.prog 18 #[.agg (ic C)] w fun r w' => r = .returned (.bool true) ∧ Below w.heap.size w w' := by
  have h0 := (chk_ok h).2
  have H := Lib.hid h0
  clear h0
  go_enter Tryd.func18, Tryd.ntmps18
  unfold ic
  go_wp2_with fail
  refine (rcheck_any C _).mono ?_
  rintro e w' ⟨rfl, hb⟩
  have hb0 := Lib.hid (((Below.refl w.heap.size w).alloc (Nat.le_refl _) _).trans (hb.mono (by simp)))
  clear hb
  rw [H.out]
  go_wp2
  go_ret
  exact ⟨rfl, hb0.out⟩

theorem right_no (C : Nat → Int) (w : World) (h : ¬ Right C) :
    Calls Tryd.prog 18 #[.agg (ic C)] w fun r w' => r = .returned (.bool false) ∧ Below w.heap.size w w' := by
  have h0 : chkE C = 7 := by
    rcases right_or C with h1 | ⟨m, h1, h2, h3⟩
    · exact absurd h1 h
    · exact (chk_bad h2 h3 h1).2
  have H := Lib.hid h0
  clear h0
  go_enter Tryd.func18, Tryd.ntmps18
  unfold ic
  go_wp2_with fail
  refine (rcheck_any C _).mono ?_
  rintro e w' ⟨rfl, hb⟩
  have hb0 := Lib.hid (((Below.refl w.heap.size w).alloc (Nat.le_refl _) _).trans (hb.mono (by simp)))
  clear hb
  rw [H.out]
  go_wp2
  go_ret
  exact ⟨rfl, hb0.out⟩

/-- a block's thirteen cells. -/
structure Thir (w : World) (b : Nat) (C : Nat → Int) : Prop where
  c0 : w.cell? ⟨b, 0, none⟩ = some (.int .i64 (C 0))
  c1 : w.cell? ⟨b, 1, none⟩ = some (.int .i64 (C 1))
  c2 : w.cell? ⟨b, 2, none⟩ = some (.int .i64 (C 2))
  c3 : w.cell? ⟨b, 3, none⟩ = some (.int .i64 (C 3))
  c4 : w.cell? ⟨b, 4, none⟩ = some (.int .i64 (C 4))
  c5 : w.cell? ⟨b, 5, none⟩ = some (.int .i64 (C 5))
  c6 : w.cell? ⟨b, 6, none⟩ = some (.int .i64 (C 6))
  c7 : w.cell? ⟨b, 7, none⟩ = some (.int .i64 (C 7))
  c8 : w.cell? ⟨b, 8, none⟩ = some (.int .i64 (C 8))
  c9 : w.cell? ⟨b, 9, none⟩ = some (.int .i64 (C 9))
  c10 : w.cell? ⟨b, 10, none⟩ = some (.int .i64 (C 10))
  c11 : w.cell? ⟨b, 11, none⟩ = some (.int .i64 (C 11))
  c12 : w.cell? ⟨b, 12, none⟩ = some (.int .i64 (C 12))
theorem Lies.thir {w : World} {b : Nat} {t : TypeId} {C : Nat → Int} (h : Lies w b t (ic C)) : Thir w b C :=
  ⟨h.cell 0, h.cell 1, h.cell 2, h.cell 3, h.cell 4, h.cell 5, h.cell 6, h.cell 7, h.cell 8, h.cell 9, h.cell 10, h.cell 11, h.cell 12⟩

/-- a configuration's cells, as a list. -/
def icl (C : Nat → Int) : List Value := (ic C).toList
theorem icl_size (C : Nat → Int) : (Tryd.prog.info? 23).map (·.size) = some (icl C).length := by kernel_rfl
theorem Lies.range {w : World} {b : Nat} {t : TypeId} {C : Nat → Int} (h : Lies w b t (ic C)) : w.rangeAt b 0 (icl C) := by
  intro j v hv
  rw [Nat.zero_add, h.cell j]
  simpa [icl] using hv

theorem size_eq (C : Nat → Int) : 3 + C 0 * (3 + C 1 * (1 + plS C)) + 4 * C 3 + 3 * C 4 + C 7 = plZ C := by
  unfold plZ plD plB plA plE; omega

theorem wrapI (n : Int) (h : -9223372036854775808 ≤ n ∧ n ≤ 9223372036854775807) : IntKind.i64.wrap n = n := by
  rw [IntKind.wrap_i64]; omega
theorem size_wrap (C : Nat → Int) (h : Right C) : IntKind.i64.wrap (IntKind.i64.wrap (IntKind.i64.wrap (IntKind.i64.wrap (3 + IntKind.i64.wrap (C 0 * IntKind.i64.wrap (3 + IntKind.i64.wrap (C 1 * IntKind.i64.wrap (1 + plS C))))) + IntKind.i64.wrap (4 * C 3)) + IntKind.i64.wrap (3 * C 4)) + C 7) = plZ C := by
  obtain ⟨c0, c1, c2, c3, c4, _, c7, s, e, a, b, d, z⟩ := bds h
  have m1 := mul_bd (a := C 1) (b := 1 + plS C) (x := 8) (y := 65) (by omega) c1.2 (by omega) (by omega)
  have m2 := mul_bd (a := C 0) (b := 3 + C 1 * (1 + plS C)) (x := 64) (y := 523) (by omega) c0.2 (by omega) (by omega)
  rw [wrapI (1 + plS C) (by omega), wrapI (C 1 * _) (by omega), wrapI (3 + C 1 * _) (by omega), wrapI (C 0 * _) (by omega), wrapI (3 + C 0 * _) (by omega), wrapI (4 * C 3) (by omega), wrapI (3 * C 4) (by omega)]
  rw [wrapI (_ + 4 * C 3) (by omega), wrapI (_ + 3 * C 4) (by omega), wrapI _ (by omega), size_eq]

set_option maxRecDepth 100000 in
set_option maxHeartbeats 2000000 in
theorem rsize_any (C : Nat → Int) (w : World) (h : Right C) :
    Calls Tryd.prog 17 #[.agg (ic C)] w fun r w' => r = .returned (.int .i64 (plZ C)) ∧ Below w.heap.size w w' := by
  obtain ⟨c0, c1, c2, c3, c4, _, c7, s, e, a, b, d, z⟩ := bds h
  have HZ := Lib.hid (size_wrap C h)
  clear h e a b d z
  go_enter Tryd.func17, Tryd.ntmps17
  go_wp2_with fail
  have hl := Lies.new w 23 (ic C)
  have hb : Below w.heap.size w (w.alloc (.cells (ic C) 23)) := (Below.refl _ _).alloc (Nat.le_refl _) _
  have hlt := hl.lt
  generalize w.alloc (.cells (ic C) 23) = w1 at *
  have HB := Lib.hid hb
  clear hb
  generalize hB : w.heap.size = B at *
  have HBB := Lib.hid hB
  clear hB
  obtain ⟨d0, d1, d2, d3, d4, d5, d6, d7, d8, d9, d10, d11, d12⟩ := hl.thir
  clear d2 d5 d6 d8 d9 d10 d11 d12
  have dr := hl.range
  have hu := Tryd.underlying23
  have hs := icl_size C
  go_region_held3 (fun W' => W'.cell? ⟨B, 0, none⟩ = some (.int .i64 (C 0)) ∧ W'.cell? ⟨B, 1, none⟩ = some (.int .i64 (C 1)) ∧ W'.cell? ⟨B, 3, none⟩ = some (.int .i64 (C 3)) ∧ W'.cell? ⟨B, 4, none⟩ = some (.int .i64 (C 4)) ∧ W'.cell? ⟨B, 7, none⟩ = some (.int .i64 (C 7)) ∧ W'.rangeAt B 0 (icl C))
    (first | exact ⟨d0, d1, d3, d4, d7, dr⟩ | exact ⟨x0, x1, x3, x4, x7, xr⟩)
    (first
      | (go_at_call 21
         refine (slots_any C _ c2).mono ?_
         rintro e w2 ⟨rfl, hw2⟩
         have hl2 : Lies w2 B 23 (ic C) := by rw [← hw2]; exact hl.drew.alloc _
         have hb2 : Below w1.heap.size w1 w2 := by rw [← hw2]; exact (Below.refl _ _).drew.alloc (Nat.le_refl _) _
         obtain ⟨x0, x1, _, x3, x4, _, _, x7, _, _, _, _, _⟩ := hl2.thir
         have xr := hl2.range))
  go_wp2
  go_ret
  exact ⟨ret_int HZ.out, by rw [HBB.out]; exact HB.out.trans (hb2.mono (by omega))⟩

end Go.Proofs.YtgbepebihlmedaaDoor
