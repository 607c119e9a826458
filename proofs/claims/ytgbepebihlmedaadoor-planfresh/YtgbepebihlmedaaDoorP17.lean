/- Contracts: the chains of free nodes and free tickets. -/
import Derived.Test.YtgbepebihlmedaaDoorP16
namespace Go.Proofs.YtgbepebihlmedaaDoor
open Go.RowKit

theorem wrapU2 (x : Nat) (h : x ≤ 1000000) : IntKind.u64.wrap (IntKind.u64.wrap ((x : Int) + 1) + 1) = x + 2 := by
  rw [IntKind.wrap_u64, IntKind.wrap_u64]; omega

/-- within Fresh: the cells at X, the variable that has them at Y, the first head at F, the plan. -/
structure FrAt (X Y F p : Nat) (C : Nat → Int) (Z : Nat) (f : Nat → Int) (W : World) : Prop where
  ce : Lies W X 55 (nums (nl Z f))
  vr : Lies W Y 53 #[.slice (some ⟨X, 0, none⟩) Z Z]
  fi : Lies W F 55 #[.int .u64 1]
  pl : PlanAt W p C
  xf : X ≠ F
section
variable {X Y F p : Nat} {C : Nat → Int} {Z : Nat} {f : Nat → Int} {W W' : World}
theorem FrAt.px (h : FrAt X Y F p C Z f W) : p ≠ X := Lies.unlike h.pl h.ce (by decide)
theorem FrAt.yx (h : FrAt X Y F p C Z f W) : Y ≠ X := Lies.unlike h.vr h.ce (by decide)
theorem FrAt.next (h : FrAt X Y F p C Z f W) (k : Below W.heap.size W W') : FrAt X Y F p C Z f W' :=
  ⟨h.ce.below k h.ce.lt, h.vr.below k h.vr.lt, h.fi.below k h.fi.lt, h.pl.keep k h.pl.lt, h.xf⟩
theorem FrAt.set (h : FrAt X Y F p C Z f W) (i : Nat) (v : Int) : FrAt X Y F p C Z (upd f i v) (W.setCell ⟨X, i, none⟩ (.int .u64 v)) := by
  have k : Turns [X] W (W.setCell ⟨X, i, none⟩ (.int .u64 v)) := (Turns.refl _ _).setCell (.inl (by simp)) _
  refine ⟨?_, h.vr.turn k (by simpa using h.yx), h.fi.turn k (by simpa using h.xf.symm), h.pl.turn k (by simpa using h.px), h.xf⟩
  have := h.ce.set i (.int .u64 v)
  rwa [nums_set, nl_set] at this
theorem FrAt.drew (h : FrAt X Y F p C Z f W) : FrAt X Y F p C Z f W.drew := ⟨h.ce, h.vr, h.fi, h.pl, h.xf⟩
theorem FrAt.cell (h : FrAt X Y F p C Z f W) (i : Nat) (hi : i < Z) : W.cell? ⟨X, i, none⟩ = some (.int .u64 (f i)) := by
  have := h.ce.cell i
  rwa [nums_at (by rw [nl_length]; exact hi), nl_getA hi] at this
theorem FrAt.slice (h : FrAt X Y F p C Z f W) : W.cell? ⟨Y, 0, none⟩ = some (.slice (some ⟨X, 0, none⟩) Z Z) := h.vr.cell 0
theorem FrAt.first (h : FrAt X Y F p C Z f W) : W.cell? ⟨F, 0, none⟩ = some (.int .u64 1) := h.fi.cell 0
theorem turns_set (i : Nat) (v : Value) : Turns [X] W (W.setCell ⟨X, i, none⟩ v) := (Turns.refl _ _).setCell (.inl (by simp)) _
end

set_option maxRecDepth 100000 in
set_option maxHeartbeats 4000000 in
theorem chain_nodes (X Y F p : Nat) (C : Nat → Int) (Z : Nat) (W L S E N T Q : Nat) (A B : Nat) (st a1 a2 : Int) (s j : Nat) (w : World) (hN : Nats C W L S E N T Q) (hr : Right C) (hA : A = 3 + W * E) (hB : B = A + N * 4) (hZ : B + T * 3 ≤ Z) (hZb : Z ≤ 100000) (hc : 1 ≤ N)
    (h : FrAt X Y F p C Z (fr A B T st a1 a2 0 0 s 0 j) w) :
    Calls Tryd.prog 54 #[.int .i64 1, .int .i64 (N : Nat), .func (.func 30) #[.pointer (some ⟨p, 0, none⟩)] #[], .pointer (some ⟨F, 0, none⟩), .pointer (some ⟨Y, 0, none⟩)] w
      fun r w' => r = .returned (.tuple #[]) ∧ FrAt X Y F p C Z (fr A B T st 1 a2 0 (N - 1) s 0 j) w' ∧ Turns [X] w w' := by
  have hA3 : 3 ≤ A := by omega
  have HN := Lib.hid hN
  have HAA := Lib.hid hA
  have HBB := Lib.hid hB
  have hBZ : A + N * 4 + T * 3 ≤ Z := by omega
  clear hN hA hB
  have c0 := h.slice
  have c1 := h.first
  have c2 := h.cell 1 (by omega)
  have f2 := h.ce.frozen 1
  generalize hq : (fr A B T st a1 a2 0 0 s 0 j) 1 = q at c2
  clear hq
  have hz1 : (1 : Int) < Z := by omega
  go_enter Tryd.func54, Tryd.ntmps54
  go_upto_region 1 with (fail)
  have h1 := h.set 1 1
  rw [fr_head1] at h1
  have t1 : Turns [X] w (w.setCell ⟨X, 1, none⟩ (.int .u64 1)) := turns_set _ _
  clear c0 c1 c2 f2 h hz1
  generalize w.setCell ⟨X, 1, none⟩ (.int .u64 1) = w1 at *
  go_wp2_with fail
  go_loopw [16] (fun a u => ∃ x : Nat, x ≤ N - 1 ∧ a = .int .i64 x ∧ FrAt X Y F p C Z (fr A B T st 1 a2 0 x s 0 j) u ∧ Turns [X] w u) (fun a _ => N - 1 - (intOf a).toNat)
  case atStart => exact ⟨0, by omega, rfl, h1, t1⟩
  case round =>
    clear h1 t1
    obtain ⟨x, hx, rfl, h, t⟩ := hrel
    by_cases hlt : x < N - 1
    · obtain ⟨J, hJ⟩ : ∃ J, J = A + x * 4 + 3 := ⟨_, rfl⟩
      have hJZ : (J : Int) < Z := by have := HBB.out; omega
      have V := Lib.hid (show plNode C x 3 = J by rw [HN.out.node x (by omega), hJ, HAA.out]; push_cast; omega)
      have HJ := Lib.hid hJ
      have c0 := h.slice
      have hlt' : (x : Int) < (N : Int) - 1 := by omega
      clear hJ
      go_wp2_with fail
      go_region_held3 (fun W' => W'.cell? ⟨Y, 0, none⟩ = some (.slice (some ⟨X, 0, none⟩) Z Z))
        (first | exact c0 | exact e0 | exact g0)
        (first
          | (go_at_call 30
             refine (nodeLink_any C p x _ h.drew.pl hr).mono ?_
             rintro r u1 ⟨rfl, b1⟩
             rw [V.out]
             have h2 := h.drew.next b1
             have t2 : Turns [X] w u1 := t.trans ⟨b1.os, b1.tape, b1.output, b1.size, fun i hi _ => b1.block i hi⟩
             have e0 := h2.slice
             have e1 := h2.cell J (by omega)
             have e2 := h2.ce.frozen J
             have h3 := h2.set J (IntKind.u64.wrap (IntKind.u64.wrap ((x : Int) + 1) + 1))
             have g0 := h3.slice))
      go_wp2
      go_roundw
      case rel =>
        refine ⟨x + 1, by omega, by go_num, ?_, t2.trans (turns_set _ _)⟩
        have := h3
        rw [wrapU2 x (by omega), HJ.out, fr_link (N := N) hA3 HBB.out (by omega) (by omega)] at this
        rw [HJ.out, show (x : Int) + 1 + 1 = x + 2 by omega]
        exact this
      case measure => simp [intOf]; omega
    · obtain rfl : x = N - 1 := by omega
      have hn : ¬ ((N - 1 : Nat) : Int) < (N : Int) - 1 := by omega
      go_wp2
      go_end0
      exact ⟨rfl, h, t⟩

set_option maxRecDepth 100000 in
set_option maxHeartbeats 4000000 in
theorem chain_tickets (X Y F p : Nat) (C : Nat → Int) (Z : Nat) (W L S E N T Q : Nat) (A B : Nat) (st a1 a2 : Int) (k s : Nat) (w : World) (hN : Nats C W L S E N T Q) (hr : Right C) (hA : A = 3 + W * E) (hB : B = A + N * 4) (hZ : B + T * 3 ≤ Z) (hZb : Z ≤ 100000) (hc : 1 ≤ T)
    (h : FrAt X Y F p C Z (fr A B T st a1 a2 0 k s 0 0) w) :
    Calls Tryd.prog 54 #[.int .i64 2, .int .i64 (T : Nat), .func (.func 33) #[.pointer (some ⟨p, 0, none⟩)] #[], .pointer (some ⟨F, 0, none⟩), .pointer (some ⟨Y, 0, none⟩)] w
      fun r w' => r = .returned (.tuple #[]) ∧ FrAt X Y F p C Z (fr A B T st a1 1 0 k s 0 (T - 1)) w' ∧ Turns [X] w w' := by
  have hA3 : 3 ≤ A := by omega
  have HN := Lib.hid hN
  have HAA := Lib.hid hA
  have HBB := Lib.hid hB
  have hBZ : A + N * 4 + T * 3 ≤ Z := by omega
  clear hN hA hB
  have c0 := h.slice
  have c1 := h.first
  have c2 := h.cell 2 (by omega)
  have f2 := h.ce.frozen 2
  generalize hq : (fr A B T st a1 a2 0 k s 0 0) 2 = q at c2
  clear hq
  have hz2 : (2 : Int) < Z := by omega
  go_enter Tryd.func54, Tryd.ntmps54
  go_upto_region 1 with (fail)
  have h1 := h.set 2 1
  rw [fr_head2] at h1
  have t1 : Turns [X] w (w.setCell ⟨X, 2, none⟩ (.int .u64 1)) := turns_set _ _
  clear c0 c1 c2 f2 h hz2
  generalize w.setCell ⟨X, 2, none⟩ (.int .u64 1) = w1 at *
  go_wp2_with fail
  go_loopw [16] (fun a u => ∃ x : Nat, x ≤ T - 1 ∧ a = .int .i64 x ∧ FrAt X Y F p C Z (fr A B T st a1 1 0 k s 0 x) u ∧ Turns [X] w u) (fun a _ => T - 1 - (intOf a).toNat)
  case atStart => exact ⟨0, by omega, rfl, h1, t1⟩
  case round =>
    clear h1 t1
    obtain ⟨x, hx, rfl, h, t⟩ := hrel
    by_cases hlt : x < T - 1
    · obtain ⟨J, hJ⟩ : ∃ J, J = B + x * 3 + 2 := ⟨_, rfl⟩
      have hJZ : (J : Int) < Z := by have := HBB.out; omega
      have V := Lib.hid (show plTick C x 2 = J by rw [HN.out.tick x (by omega), hJ, HBB.out, HAA.out]; push_cast; omega)
      have HJ := Lib.hid hJ
      have c0 := h.slice
      have hlt' : (x : Int) < (T : Int) - 1 := by omega
      clear hJ
      go_wp2_with fail
      go_region_held3 (fun W' => W'.cell? ⟨Y, 0, none⟩ = some (.slice (some ⟨X, 0, none⟩) Z Z))
        (first | exact c0 | exact e0 | exact g0)
        (first
          | (go_at_call 33
             refine (ticketLink_any C p x _ h.drew.pl hr).mono ?_
             rintro r u1 ⟨rfl, b1⟩
             rw [V.out]
             have h2 := h.drew.next b1
             have t2 : Turns [X] w u1 := t.trans ⟨b1.os, b1.tape, b1.output, b1.size, fun i hi _ => b1.block i hi⟩
             have e0 := h2.slice
             have e1 := h2.cell J (by omega)
             have e2 := h2.ce.frozen J
             have h3 := h2.set J (IntKind.u64.wrap (IntKind.u64.wrap ((x : Int) + 1) + 1))
             have g0 := h3.slice))
      go_wp2
      go_roundw
      case rel =>
        refine ⟨x + 1, by omega, by go_num, ?_, t2.trans (turns_set _ _)⟩
        have := h3
        rw [wrapU2 x (by omega), HJ.out, fr_tick (N := N) hA3 HBB.out (by omega) (by omega)] at this
        rw [HJ.out, show (x : Int) + 1 + 1 = x + 2 by omega]
        exact this
      case measure => simp [intOf]; omega
    · obtain rfl : x = T - 1 := by omega
      have hn : ¬ ((T - 1 : Nat) : Int) < (T : Int) - 1 := by omega
      go_wp2
      go_end0
      exact ⟨rfl, h, t⟩

end Go.Proofs.YtgbepebihlmedaaDoor
