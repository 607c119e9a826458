/- Events, the document's: is what an event hasn't nothing? -/
import Derived.Test.YtiaknnhfbfoeiaaDoorE7
import Derived.Deep.DeepCutAuto
import Derived.Lib.Hide
namespace Go.Proofs.YtiaknnhfbfoeiaaDoor
open Go.RowKit Go.ChangeShapes Go.WideShapes
set_option maxRecDepth 100000

theorem cellsX {W : World} {b : Nat} {ty : TypeId} {k ww o hn hg nn ng t a u er : Int} {y : Bool} (h : Lies W b ty (Ev.c ⟨k, ww, o, hn, hg, nn, ng, t, a, u, y, er⟩)) : W.cell? ⟨b, 0, none⟩ = some (.int .i64 k) ∧ W.cell? ⟨b, 1, none⟩ = some (.int .i64 ww) ∧ W.cell? ⟨b, 2, none⟩ = some (.int .i64 o) ∧ W.cell? ⟨b, 3, none⟩ = some (.int .i64 hn) ∧ W.cell? ⟨b, 4, none⟩ = some (.int .i64 hg) ∧ W.cell? ⟨b, 5, none⟩ = some (.int .i64 nn) ∧ W.cell? ⟨b, 6, none⟩ = some (.int .i64 ng) ∧ W.cell? ⟨b, 7, none⟩ = some (.int .i64 t) ∧ W.cell? ⟨b, 8, none⟩ = some (.int .i64 a) ∧ W.cell? ⟨b, 9, none⟩ = some (.int .i64 u) ∧ W.cell? ⟨b, 10, none⟩ = some (.bool y) ∧ W.cell? ⟨b, 11, none⟩ = some (.int .i64 er) := Ev.cells h
/-- something stands where nothing should. -/
def more2 (x : Ev) : Bool := (!hasH x && !(x.hn == 0 && x.hg == 0)) || (!hasN x && !(x.nn == 0 && x.ng == 0)) || (!hasT x && !(x.t == 0)) || (!hasA x && !(x.a == 0))
def none4 (x : Ev) : Bool := (hasU x || x.u == 0) && (hasY x || !x.y) && (hasE x || x.e == 0)
def emptyB (x : Ev) : Bool := !more2 x && none4 x

set_option maxHeartbeats 8000000 in
theorem empty_any (x : Ev) (w : World) : Calls Tryd.prog 23 #[.agg x.c] w fun e w' => e = .returned (.bool (emptyB x)) ∧ Below w.heap.size w w' := by
  obtain ⟨k, ww, o, hn, hg, nn, ng, t, a, u, y, er⟩ := x
  show Calls Tryd.prog 23 #[.agg #[.int .i64 k, .int .i64 ww, .int .i64 o, .int .i64 hn, .int .i64 hg, .int .i64 nn, .int .i64 ng, .int .i64 t, .int .i64 a, .int .i64 u, .bool y, .int .i64 er]] w _
  unfold emptyB more2 none4
  obtain ⟨bh, bhh⟩ : ∃ b, hasH ⟨k, ww, o, hn, hg, nn, ng, t, a, u, y, er⟩ = b := ⟨_, rfl⟩
  obtain ⟨bn, bnh⟩ : ∃ b, hasN ⟨k, ww, o, hn, hg, nn, ng, t, a, u, y, er⟩ = b := ⟨_, rfl⟩
  obtain ⟨bt, bth⟩ : ∃ b, hasT ⟨k, ww, o, hn, hg, nn, ng, t, a, u, y, er⟩ = b := ⟨_, rfl⟩
  obtain ⟨ba, bah⟩ : ∃ b, hasA ⟨k, ww, o, hn, hg, nn, ng, t, a, u, y, er⟩ = b := ⟨_, rfl⟩
  obtain ⟨bu, buh⟩ : ∃ b, hasU ⟨k, ww, o, hn, hg, nn, ng, t, a, u, y, er⟩ = b := ⟨_, rfl⟩
  obtain ⟨by_, by_h⟩ : ∃ b, hasY ⟨k, ww, o, hn, hg, nn, ng, t, a, u, y, er⟩ = b := ⟨_, rfl⟩
  obtain ⟨be, beh⟩ : ∃ b, hasE ⟨k, ww, o, hn, hg, nn, ng, t, a, u, y, er⟩ = b := ⟨_, rfl⟩
  have cH : ∀ W, Calls Tryd.prog 30 #[.agg (Ev.c ⟨k, ww, o, hn, hg, nn, ng, t, a, u, y, er⟩), .int .u8 104] W fun e w' => e = .returned (.bool bh) ∧ Below W.heap.size W w' := fun W => by rw [← bhh]; exact hasH_any ⟨k, ww, o, hn, hg, nn, ng, t, a, u, y, er⟩ W
  have cN : ∀ W, Calls Tryd.prog 30 #[.agg (Ev.c ⟨k, ww, o, hn, hg, nn, ng, t, a, u, y, er⟩), .int .u8 110] W fun e w' => e = .returned (.bool bn) ∧ Below W.heap.size W w' := fun W => by rw [← bnh]; exact hasN_any ⟨k, ww, o, hn, hg, nn, ng, t, a, u, y, er⟩ W
  have cT : ∀ W, Calls Tryd.prog 30 #[.agg (Ev.c ⟨k, ww, o, hn, hg, nn, ng, t, a, u, y, er⟩), .int .u8 116] W fun e w' => e = .returned (.bool bt) ∧ Below W.heap.size W w' := fun W => by rw [← bth]; exact hasT_any ⟨k, ww, o, hn, hg, nn, ng, t, a, u, y, er⟩ W
  have cA : ∀ W, Calls Tryd.prog 30 #[.agg (Ev.c ⟨k, ww, o, hn, hg, nn, ng, t, a, u, y, er⟩), .int .u8 97] W fun e w' => e = .returned (.bool ba) ∧ Below W.heap.size W w' := fun W => by rw [← bah]; exact hasA_any ⟨k, ww, o, hn, hg, nn, ng, t, a, u, y, er⟩ W
  have cU : ∀ W, Calls Tryd.prog 30 #[.agg (Ev.c ⟨k, ww, o, hn, hg, nn, ng, t, a, u, y, er⟩), .int .u8 117] W fun e w' => e = .returned (.bool bu) ∧ Below W.heap.size W w' := fun W => by rw [← buh]; exact hasU_any ⟨k, ww, o, hn, hg, nn, ng, t, a, u, y, er⟩ W
  have cY : ∀ W, Calls Tryd.prog 30 #[.agg (Ev.c ⟨k, ww, o, hn, hg, nn, ng, t, a, u, y, er⟩), .int .u8 121] W fun e w' => e = .returned (.bool by_) ∧ Below W.heap.size W w' := fun W => by rw [← by_h]; exact hasY_any ⟨k, ww, o, hn, hg, nn, ng, t, a, u, y, er⟩ W
  have cE : ∀ W, Calls Tryd.prog 30 #[.agg (Ev.c ⟨k, ww, o, hn, hg, nn, ng, t, a, u, y, er⟩), .int .u8 101] W fun e w' => e = .returned (.bool be) ∧ Below W.heap.size W w' := fun W => by rw [← beh]; exact hasE_any ⟨k, ww, o, hn, hg, nn, ng, t, a, u, y, er⟩ W
  rw [bhh, bnh, bth, bah, buh, by_h, beh]
  clear bhh bnh bth bah buh by_h beh
  dsimp only
  obtain ⟨r2, hr2⟩ : ∃ r2, ((!bh && !(hn == 0 && hg == 0)) || (!bn && !(nn == 0 && ng == 0)) || (!bt && !(t == 0)) || (!ba && !(a == 0))) = r2 := ⟨_, rfl⟩
  obtain ⟨r4, hr4⟩ : ∃ r4, ((bu || u == 0) && (by_ || !y) && (be || er == 0)) = r4 := ⟨_, rfl⟩
  rw [hr2, hr4]
  have HR2 := Lib.hid hr2
  have HR4 := Lib.hid hr4
  clear hr2 hr4
  obtain ⟨W2, hW2⟩ : ∃ W2, (w.alloc (.cells #[.int .i64 k, .int .i64 ww, .int .i64 o, .int .i64 hn, .int .i64 hg, .int .i64 nn, .int .i64 ng, .int .i64 t, .int .i64 a, .int .i64 u, .bool y, .int .i64 er] 25)).alloc (.cells #[.int .i64 0, .int .i64 0] 23) = W2 := ⟨_, rfl⟩
  have l1 : Lies W2 w.heap.size 25 (Ev.c ⟨k, ww, o, hn, hg, nn, ng, t, a, u, y, er⟩) := by rw [← hW2]; exact (Lies.new _ _ _).alloc _
  have lz : Lies W2 (w.heap.size + 1) 23 #[.int .i64 0, .int .i64 0] := by rw [← hW2]; exact Lies.new_of _ _ (by simp)
  have bW : Below w.heap.size w W2 := by rw [← hW2]; exact ((Below.refl _ _).alloc (by simp) _).alloc (by simp) _
  obtain ⟨f0, f1, f2, f3, f4, f5, f6, f7, f8, f9, fa, fbb⟩ := cellsX l1
  have z0 : _ = some (Value.int .i64 0) := lz.cell 0
  have z1 : _ = some (Value.int .i64 0) := lz.cell 1
  have HW2 := Lib.hid hW2
  clear hW2
  go_enter Tryd.func23, Tryd.ntmps23
  go_upto_region 2 with (fail)
  try rw [HW2.out]
  clear HW2
  go_cut [44] (fun v wc => v = .bool r2 ∧ Lies wc w.heap.size 25 (Ev.c ⟨k, ww, o, hn, hg, nn, ng, t, a, u, y, er⟩) ∧ Below w.heap.size w wc)
  case first =>
    go_wp2_with fail
    refine (show Calls Tryd.prog 30 #[.agg (Ev.c ⟨_, _, _, _, _, _, _, _, _, _, _, _⟩), .int .u8 104] _ _ from cH _).mono ?_
    rintro e wn ⟨rfl, bb⟩
    have l1 := l1.below bb l1.lt
    have lz := lz.below bb lz.lt
    have bW := bW.trans (bb.mono bW.size)
    clear f0 f1 f2 f3 f4 f5 f6 f7 f8 f9 fa fbb z0 z1
    obtain ⟨f0, f1, f2, f3, f4, f5, f6, f7, f8, f9, fa, fbb⟩ := cellsX l1
    have z0 : _ = some (Value.int .i64 0) := lz.cell 0
    have z1 : _ = some (Value.int .i64 0) := lz.cell 1
    cases bh with
    | true =>
      go_wp2_with fail
      refine (show Calls Tryd.prog 30 #[.agg (Ev.c ⟨_, _, _, _, _, _, _, _, _, _, _, _⟩), .int .u8 110] _ _ from cN _).mono ?_
      rintro e wn ⟨rfl, bb⟩
      have l1 := l1.below bb l1.lt
      have lz := lz.below bb lz.lt
      have bW := bW.trans (bb.mono bW.size)
      clear f0 f1 f2 f3 f4 f5 f6 f7 f8 f9 fa fbb z0 z1
      obtain ⟨f0, f1, f2, f3, f4, f5, f6, f7, f8, f9, fa, fbb⟩ := cellsX l1
      have z0 : _ = some (Value.int .i64 0) := lz.cell 0
      have z1 : _ = some (Value.int .i64 0) := lz.cell 1
      cases bn with
      | true =>
        go_wp2_with fail
        refine (show Calls Tryd.prog 30 #[.agg (Ev.c ⟨_, _, _, _, _, _, _, _, _, _, _, _⟩), .int .u8 116] _ _ from cT _).mono ?_
        rintro e wn ⟨rfl, bb⟩
        have l1 := l1.below bb l1.lt
        have lz := lz.below bb lz.lt
        have bW := bW.trans (bb.mono bW.size)
        clear f0 f1 f2 f3 f4 f5 f6 f7 f8 f9 fa fbb z0 z1
        obtain ⟨f0, f1, f2, f3, f4, f5, f6, f7, f8, f9, fa, fbb⟩ := cellsX l1
        have z0 : _ = some (Value.int .i64 0) := lz.cell 0
        have z1 : _ = some (Value.int .i64 0) := lz.cell 1
        cases bt with
        | true =>
          go_wp2_with fail
          refine (show Calls Tryd.prog 30 #[.agg (Ev.c ⟨_, _, _, _, _, _, _, _, _, _, _, _⟩), .int .u8 97] _ _ from cA _).mono ?_
          rintro e wn ⟨rfl, bb⟩
          have l1 := l1.below bb l1.lt
          have lz := lz.below bb lz.lt
          have bW := bW.trans (bb.mono bW.size)
          clear f0 f1 f2 f3 f4 f5 f6 f7 f8 f9 fa fbb z0 z1
          obtain ⟨f0, f1, f2, f3, f4, f5, f6, f7, f8, f9, fa, fbb⟩ := cellsX l1
          have z0 : _ = some (Value.int .i64 0) := lz.cell 0
          have z1 : _ = some (Value.int .i64 0) := lz.cell 1
          cases ba with
          | true =>
            go_wp2_with fail
            go_meet
            case rel => exact ⟨by rw [← HR2.out]; first | (simp [*]; done) | (simp [*]; rfl), l1, bW⟩
          | false =>
            by_cases q3 : a = 0
            · subst q3
              go_wp2_with fail
              go_meet
              case rel => exact ⟨by rw [← HR2.out]; first | (simp [*]; done) | (simp [*]; rfl), l1, bW⟩
            · skip
              go_wp2_with fail
              go_meet
              case rel => exact ⟨by rw [← HR2.out]; first | (simp [*]; done) | (simp [*]; rfl), l1, bW⟩
        | false =>
          by_cases q2 : t = 0
          · subst q2
            go_wp2_with fail
            refine (show Calls Tryd.prog 30 #[.agg (Ev.c ⟨_, _, _, _, _, _, _, _, _, _, _, _⟩), .int .u8 97] _ _ from cA _).mono ?_
            rintro e wn ⟨rfl, bb⟩
            have l1 := l1.below bb l1.lt
            have lz := lz.below bb lz.lt
            have bW := bW.trans (bb.mono bW.size)
            clear f0 f1 f2 f3 f4 f5 f6 f7 f8 f9 fa fbb z0 z1
            obtain ⟨f0, f1, f2, f3, f4, f5, f6, f7, f8, f9, fa, fbb⟩ := cellsX l1
            have z0 : _ = some (Value.int .i64 0) := lz.cell 0
            have z1 : _ = some (Value.int .i64 0) := lz.cell 1
            cases ba with
            | true =>
              go_wp2_with fail
              go_meet
              case rel => exact ⟨by rw [← HR2.out]; first | (simp [*]; done) | (simp [*]; rfl), l1, bW⟩
            | false =>
              by_cases q3 : a = 0
              · subst q3
                go_wp2_with fail
                go_meet
                case rel => exact ⟨by rw [← HR2.out]; first | (simp [*]; done) | (simp [*]; rfl), l1, bW⟩
              · skip
                go_wp2_with fail
                go_meet
                case rel => exact ⟨by rw [← HR2.out]; first | (simp [*]; done) | (simp [*]; rfl), l1, bW⟩
          · skip
            go_wp2_with fail
            go_meet
            case rel => exact ⟨by rw [← HR2.out]; first | (simp [*]; done) | (simp [*]; rfl), l1, bW⟩
      | false =>
        by_cases q1 : nn = 0
        · subst q1
          by_cases p1 : ng = 0
          · subst p1
            go_wp2_with fail
            refine (show Calls Tryd.prog 30 #[.agg (Ev.c ⟨_, _, _, _, _, _, _, _, _, _, _, _⟩), .int .u8 116] _ _ from cT _).mono ?_
            rintro e wn ⟨rfl, bb⟩
            have l1 := l1.below bb l1.lt
            have lz := lz.below bb lz.lt
            have bW := bW.trans (bb.mono bW.size)
            clear f0 f1 f2 f3 f4 f5 f6 f7 f8 f9 fa fbb z0 z1
            obtain ⟨f0, f1, f2, f3, f4, f5, f6, f7, f8, f9, fa, fbb⟩ := cellsX l1
            have z0 : _ = some (Value.int .i64 0) := lz.cell 0
            have z1 : _ = some (Value.int .i64 0) := lz.cell 1
            cases bt with
            | true =>
              go_wp2_with fail
              refine (show Calls Tryd.prog 30 #[.agg (Ev.c ⟨_, _, _, _, _, _, _, _, _, _, _, _⟩), .int .u8 97] _ _ from cA _).mono ?_
              rintro e wn ⟨rfl, bb⟩
              have l1 := l1.below bb l1.lt
              have lz := lz.below bb lz.lt
              have bW := bW.trans (bb.mono bW.size)
              clear f0 f1 f2 f3 f4 f5 f6 f7 f8 f9 fa fbb z0 z1
              obtain ⟨f0, f1, f2, f3, f4, f5, f6, f7, f8, f9, fa, fbb⟩ := cellsX l1
              have z0 : _ = some (Value.int .i64 0) := lz.cell 0
              have z1 : _ = some (Value.int .i64 0) := lz.cell 1
              cases ba with
              | true =>
                go_wp2_with fail
                go_meet
                case rel => exact ⟨by rw [← HR2.out]; first | (simp [*]; done) | (simp [*]; rfl), l1, bW⟩
              | false =>
                by_cases q3 : a = 0
                · subst q3
                  go_wp2_with fail
                  go_meet
                  case rel => exact ⟨by rw [← HR2.out]; first | (simp [*]; done) | (simp [*]; rfl), l1, bW⟩
                · skip
                  go_wp2_with fail
                  go_meet
                  case rel => exact ⟨by rw [← HR2.out]; first | (simp [*]; done) | (simp [*]; rfl), l1, bW⟩
            | false =>
              by_cases q2 : t = 0
              · subst q2
                go_wp2_with fail
                refine (show Calls Tryd.prog 30 #[.agg (Ev.c ⟨_, _, _, _, _, _, _, _, _, _, _, _⟩), .int .u8 97] _ _ from cA _).mono ?_
                rintro e wn ⟨rfl, bb⟩
                have l1 := l1.below bb l1.lt
                have lz := lz.below bb lz.lt
                have bW := bW.trans (bb.mono bW.size)
                clear f0 f1 f2 f3 f4 f5 f6 f7 f8 f9 fa fbb z0 z1
                obtain ⟨f0, f1, f2, f3, f4, f5, f6, f7, f8, f9, fa, fbb⟩ := cellsX l1
                have z0 : _ = some (Value.int .i64 0) := lz.cell 0
                have z1 : _ = some (Value.int .i64 0) := lz.cell 1
                cases ba with
                | true =>
                  go_wp2_with fail
                  go_meet
                  case rel => exact ⟨by rw [← HR2.out]; first | (simp [*]; done) | (simp [*]; rfl), l1, bW⟩
                | false =>
                  by_cases q3 : a = 0
                  · subst q3
                    go_wp2_with fail
                    go_meet
                    case rel => exact ⟨by rw [← HR2.out]; first | (simp [*]; done) | (simp [*]; rfl), l1, bW⟩
                  · skip
                    go_wp2_with fail
                    go_meet
                    case rel => exact ⟨by rw [← HR2.out]; first | (simp [*]; done) | (simp [*]; rfl), l1, bW⟩
              · skip
                go_wp2_with fail
                go_meet
                case rel => exact ⟨by rw [← HR2.out]; first | (simp [*]; done) | (simp [*]; rfl), l1, bW⟩
          · skip
            go_wp2_with fail
            go_meet
            case rel => exact ⟨by rw [← HR2.out]; first | (simp [*]; done) | (simp [*]; rfl), l1, bW⟩
        · skip
          go_wp2_with fail
          go_meet
          case rel => exact ⟨by rw [← HR2.out]; first | (simp [*]; done) | (simp [*]; rfl), l1, bW⟩
    | false =>
      by_cases q0 : hn = 0
      · subst q0
        by_cases p0 : hg = 0
        · subst p0
          go_wp2_with fail
          refine (show Calls Tryd.prog 30 #[.agg (Ev.c ⟨_, _, _, _, _, _, _, _, _, _, _, _⟩), .int .u8 110] _ _ from cN _).mono ?_
          rintro e wn ⟨rfl, bb⟩
          have l1 := l1.below bb l1.lt
          have lz := lz.below bb lz.lt
          have bW := bW.trans (bb.mono bW.size)
          clear f0 f1 f2 f3 f4 f5 f6 f7 f8 f9 fa fbb z0 z1
          obtain ⟨f0, f1, f2, f3, f4, f5, f6, f7, f8, f9, fa, fbb⟩ := cellsX l1
          have z0 : _ = some (Value.int .i64 0) := lz.cell 0
          have z1 : _ = some (Value.int .i64 0) := lz.cell 1
          cases bn with
          | true =>
            go_wp2_with fail
            refine (show Calls Tryd.prog 30 #[.agg (Ev.c ⟨_, _, _, _, _, _, _, _, _, _, _, _⟩), .int .u8 116] _ _ from cT _).mono ?_
            rintro e wn ⟨rfl, bb⟩
            have l1 := l1.below bb l1.lt
            have lz := lz.below bb lz.lt
            have bW := bW.trans (bb.mono bW.size)
            clear f0 f1 f2 f3 f4 f5 f6 f7 f8 f9 fa fbb z0 z1
            obtain ⟨f0, f1, f2, f3, f4, f5, f6, f7, f8, f9, fa, fbb⟩ := cellsX l1
            have z0 : _ = some (Value.int .i64 0) := lz.cell 0
            have z1 : _ = some (Value.int .i64 0) := lz.cell 1
            cases bt with
            | true =>
              go_wp2_with fail
              refine (show Calls Tryd.prog 30 #[.agg (Ev.c ⟨_, _, _, _, _, _, _, _, _, _, _, _⟩), .int .u8 97] _ _ from cA _).mono ?_
              rintro e wn ⟨rfl, bb⟩
              have l1 := l1.below bb l1.lt
              have lz := lz.below bb lz.lt
              have bW := bW.trans (bb.mono bW.size)
              clear f0 f1 f2 f3 f4 f5 f6 f7 f8 f9 fa fbb z0 z1
              obtain ⟨f0, f1, f2, f3, f4, f5, f6, f7, f8, f9, fa, fbb⟩ := cellsX l1
              have z0 : _ = some (Value.int .i64 0) := lz.cell 0
              have z1 : _ = some (Value.int .i64 0) := lz.cell 1
              cases ba with
              | true =>
                go_wp2_with fail
                go_meet
                case rel => exact ⟨by rw [← HR2.out]; first | (simp [*]; done) | (simp [*]; rfl), l1, bW⟩
              | false =>
                by_cases q3 : a = 0
                · subst q3
                  go_wp2_with fail
                  go_meet
                  case rel => exact ⟨by rw [← HR2.out]; first | (simp [*]; done) | (simp [*]; rfl), l1, bW⟩
                · skip
                  go_wp2_with fail
                  go_meet
                  case rel => exact ⟨by rw [← HR2.out]; first | (simp [*]; done) | (simp [*]; rfl), l1, bW⟩
            | false =>
              by_cases q2 : t = 0
              · subst q2
                go_wp2_with fail
                refine (show Calls Tryd.prog 30 #[.agg (Ev.c ⟨_, _, _, _, _, _, _, _, _, _, _, _⟩), .int .u8 97] _ _ from cA _).mono ?_
                rintro e wn ⟨rfl, bb⟩
                have l1 := l1.below bb l1.lt
                have lz := lz.below bb lz.lt
                have bW := bW.trans (bb.mono bW.size)
                clear f0 f1 f2 f3 f4 f5 f6 f7 f8 f9 fa fbb z0 z1
                obtain ⟨f0, f1, f2, f3, f4, f5, f6, f7, f8, f9, fa, fbb⟩ := cellsX l1
                have z0 : _ = some (Value.int .i64 0) := lz.cell 0
                have z1 : _ = some (Value.int .i64 0) := lz.cell 1
                cases ba with
                | true =>
                  go_wp2_with fail
                  go_meet
                  case rel => exact ⟨by rw [← HR2.out]; first | (simp [*]; done) | (simp [*]; rfl), l1, bW⟩
                | false =>
                  by_cases q3 : a = 0
                  · subst q3
                    go_wp2_with fail
                    go_meet
                    case rel => exact ⟨by rw [← HR2.out]; first | (simp [*]; done) | (simp [*]; rfl), l1, bW⟩
                  · skip
                    go_wp2_with fail
                    go_meet
                    case rel => exact ⟨by rw [← HR2.out]; first | (simp [*]; done) | (simp [*]; rfl), l1, bW⟩
              · skip
                go_wp2_with fail
                go_meet
                case rel => exact ⟨by rw [← HR2.out]; first | (simp [*]; done) | (simp [*]; rfl), l1, bW⟩
          | false =>
            by_cases q1 : nn = 0
            · subst q1
              by_cases p1 : ng = 0
              · subst p1
                go_wp2_with fail
                refine (show Calls Tryd.prog 30 #[.agg (Ev.c ⟨_, _, _, _, _, _, _, _, _, _, _, _⟩), .int .u8 116] _ _ from cT _).mono ?_
                rintro e wn ⟨rfl, bb⟩
                have l1 := l1.below bb l1.lt
                have lz := lz.below bb lz.lt
                have bW := bW.trans (bb.mono bW.size)
                clear f0 f1 f2 f3 f4 f5 f6 f7 f8 f9 fa fbb z0 z1
                obtain ⟨f0, f1, f2, f3, f4, f5, f6, f7, f8, f9, fa, fbb⟩ := cellsX l1
                have z0 : _ = some (Value.int .i64 0) := lz.cell 0
                have z1 : _ = some (Value.int .i64 0) := lz.cell 1
                cases bt with
                | true =>
                  go_wp2_with fail
                  refine (show Calls Tryd.prog 30 #[.agg (Ev.c ⟨_, _, _, _, _, _, _, _, _, _, _, _⟩), .int .u8 97] _ _ from cA _).mono ?_
                  rintro e wn ⟨rfl, bb⟩
                  have l1 := l1.below bb l1.lt
                  have lz := lz.below bb lz.lt
                  have bW := bW.trans (bb.mono bW.size)
                  clear f0 f1 f2 f3 f4 f5 f6 f7 f8 f9 fa fbb z0 z1
                  obtain ⟨f0, f1, f2, f3, f4, f5, f6, f7, f8, f9, fa, fbb⟩ := cellsX l1
                  have z0 : _ = some (Value.int .i64 0) := lz.cell 0
                  have z1 : _ = some (Value.int .i64 0) := lz.cell 1
                  cases ba with
                  | true =>
                    go_wp2_with fail
                    go_meet
                    case rel => exact ⟨by rw [← HR2.out]; first | (simp [*]; done) | (simp [*]; rfl), l1, bW⟩
                  | false =>
                    by_cases q3 : a = 0
                    · subst q3
                      go_wp2_with fail
                      go_meet
                      case rel => exact ⟨by rw [← HR2.out]; first | (simp [*]; done) | (simp [*]; rfl), l1, bW⟩
                    · skip
                      go_wp2_with fail
                      go_meet
                      case rel => exact ⟨by rw [← HR2.out]; first | (simp [*]; done) | (simp [*]; rfl), l1, bW⟩
                | false =>
                  by_cases q2 : t = 0
                  · subst q2
                    go_wp2_with fail
                    refine (show Calls Tryd.prog 30 #[.agg (Ev.c ⟨_, _, _, _, _, _, _, _, _, _, _, _⟩), .int .u8 97] _ _ from cA _).mono ?_
                    rintro e wn ⟨rfl, bb⟩
                    have l1 := l1.below bb l1.lt
                    have lz := lz.below bb lz.lt
                    have bW := bW.trans (bb.mono bW.size)
                    clear f0 f1 f2 f3 f4 f5 f6 f7 f8 f9 fa fbb z0 z1
                    obtain ⟨f0, f1, f2, f3, f4, f5, f6, f7, f8, f9, fa, fbb⟩ := cellsX l1
                    have z0 : _ = some (Value.int .i64 0) := lz.cell 0
                    have z1 : _ = some (Value.int .i64 0) := lz.cell 1
                    cases ba with
                    | true =>
                      go_wp2_with fail
                      go_meet
                      case rel => exact ⟨by rw [← HR2.out]; first | (simp [*]; done) | (simp [*]; rfl), l1, bW⟩
                    | false =>
                      by_cases q3 : a = 0
                      · subst q3
                        go_wp2_with fail
                        go_meet
                        case rel => exact ⟨by rw [← HR2.out]; first | (simp [*]; done) | (simp [*]; rfl), l1, bW⟩
                      · skip
                        go_wp2_with fail
                        go_meet
                        case rel => exact ⟨by rw [← HR2.out]; first | (simp [*]; done) | (simp [*]; rfl), l1, bW⟩
                  · skip
                    go_wp2_with fail
                    go_meet
                    case rel => exact ⟨by rw [← HR2.out]; first | (simp [*]; done) | (simp [*]; rfl), l1, bW⟩
              · skip
                go_wp2_with fail
                go_meet
                case rel => exact ⟨by rw [← HR2.out]; first | (simp [*]; done) | (simp [*]; rfl), l1, bW⟩
            · skip
              go_wp2_with fail
              go_meet
              case rel => exact ⟨by rw [← HR2.out]; first | (simp [*]; done) | (simp [*]; rfl), l1, bW⟩
        · skip
          go_wp2_with fail
          go_meet
          case rel => exact ⟨by rw [← HR2.out]; first | (simp [*]; done) | (simp [*]; rfl), l1, bW⟩
      · skip
        go_wp2_with fail
        go_meet
        case rel => exact ⟨by rw [← HR2.out]; first | (simp [*]; done) | (simp [*]; rfl), l1, bW⟩
  case rest =>
    clear l1 bW lz f0 f1 f2 f3 f4 f5 f6 f7 f8 f9 fa fbb z0 z1
    obtain ⟨rfl, l1, bW⟩ := hcut
    obtain ⟨f0, f1, f2, f3, f4, f5, f6, f7, f8, f9, fa, fbb⟩ := cellsX l1
    cases r2 with
    | true =>
      go_wp2_with fail
      go_ret
      exact ⟨by simp, bW⟩
    | false =>
      go_wp2_with fail
      refine (show Calls Tryd.prog 30 #[.agg (Ev.c ⟨_, _, _, _, _, _, _, _, _, _, _, _⟩), .int .u8 117] _ _ from cU _).mono ?_
      rintro e wn ⟨rfl, bb⟩
      have l1 := l1.below bb l1.lt
      have bW := bW.trans (bb.mono bW.size)
      clear f0 f1 f2 f3 f4 f5 f6 f7 f8 f9 fa fbb
      obtain ⟨f0, f1, f2, f3, f4, f5, f6, f7, f8, f9, fa, fbb⟩ := cellsX l1
      cases bu with
      | true =>
        go_wp2_with fail
        refine (show Calls Tryd.prog 30 #[.agg (Ev.c ⟨_, _, _, _, _, _, _, _, _, _, _, _⟩), .int .u8 121] _ _ from cY _).mono ?_
        rintro e wn ⟨rfl, bb⟩
        have l1 := l1.below bb l1.lt
        have bW := bW.trans (bb.mono bW.size)
        clear f0 f1 f2 f3 f4 f5 f6 f7 f8 f9 fa fbb
        obtain ⟨f0, f1, f2, f3, f4, f5, f6, f7, f8, f9, fa, fbb⟩ := cellsX l1
        cases by_ with
        | true =>
          go_wp2_with fail
          refine (show Calls Tryd.prog 30 #[.agg (Ev.c ⟨_, _, _, _, _, _, _, _, _, _, _, _⟩), .int .u8 101] _ _ from cE _).mono ?_
          rintro e wn ⟨rfl, bb⟩
          have l1 := l1.below bb l1.lt
          have bW := bW.trans (bb.mono bW.size)
          clear f0 f1 f2 f3 f4 f5 f6 f7 f8 f9 fa fbb
          obtain ⟨f0, f1, f2, f3, f4, f5, f6, f7, f8, f9, fa, fbb⟩ := cellsX l1
          cases be with
          | true =>
            go_wp2_with fail
            go_ret
            exact ⟨by rw [← HR4.out]; simp [*], bW⟩
          | false =>
            by_cases q2 : er = 0
            · subst q2
              go_wp2_with fail
              go_ret
              exact ⟨by rw [← HR4.out]; simp [*], bW⟩
            · skip
              go_wp2_with fail
              go_ret
              exact ⟨by rw [← HR4.out]; simp [*], bW⟩
        | false =>
          cases y with
          | false =>
            go_wp2_with fail
            refine (show Calls Tryd.prog 30 #[.agg (Ev.c ⟨_, _, _, _, _, _, _, _, _, _, _, _⟩), .int .u8 101] _ _ from cE _).mono ?_
            rintro e wn ⟨rfl, bb⟩
            have l1 := l1.below bb l1.lt
            have bW := bW.trans (bb.mono bW.size)
            clear f0 f1 f2 f3 f4 f5 f6 f7 f8 f9 fa fbb
            obtain ⟨f0, f1, f2, f3, f4, f5, f6, f7, f8, f9, fa, fbb⟩ := cellsX l1
            cases be with
            | true =>
              go_wp2_with fail
              go_ret
              exact ⟨by rw [← HR4.out]; simp [*], bW⟩
            | false =>
              by_cases q2 : er = 0
              · subst q2
                go_wp2_with fail
                go_ret
                exact ⟨by rw [← HR4.out]; simp [*], bW⟩
              · skip
                go_wp2_with fail
                go_ret
                exact ⟨by rw [← HR4.out]; simp [*], bW⟩
          | true =>
            go_wp2_with fail
            go_ret
            exact ⟨by rw [← HR4.out]; simp [*], bW⟩
      | false =>
        by_cases q0 : u = 0
        · subst q0
          go_wp2_with fail
          refine (show Calls Tryd.prog 30 #[.agg (Ev.c ⟨_, _, _, _, _, _, _, _, _, _, _, _⟩), .int .u8 121] _ _ from cY _).mono ?_
          rintro e wn ⟨rfl, bb⟩
          have l1 := l1.below bb l1.lt
          have bW := bW.trans (bb.mono bW.size)
          clear f0 f1 f2 f3 f4 f5 f6 f7 f8 f9 fa fbb
          obtain ⟨f0, f1, f2, f3, f4, f5, f6, f7, f8, f9, fa, fbb⟩ := cellsX l1
          cases by_ with
          | true =>
            go_wp2_with fail
            refine (show Calls Tryd.prog 30 #[.agg (Ev.c ⟨_, _, _, _, _, _, _, _, _, _, _, _⟩), .int .u8 101] _ _ from cE _).mono ?_
            rintro e wn ⟨rfl, bb⟩
            have l1 := l1.below bb l1.lt
            have bW := bW.trans (bb.mono bW.size)
            clear f0 f1 f2 f3 f4 f5 f6 f7 f8 f9 fa fbb
            obtain ⟨f0, f1, f2, f3, f4, f5, f6, f7, f8, f9, fa, fbb⟩ := cellsX l1
            cases be with
            | true =>
              go_wp2_with fail
              go_ret
              exact ⟨by rw [← HR4.out]; simp [*], bW⟩
            | false =>
              by_cases q2 : er = 0
              · subst q2
                go_wp2_with fail
                go_ret
                exact ⟨by rw [← HR4.out]; simp [*], bW⟩
              · skip
                go_wp2_with fail
                go_ret
                exact ⟨by rw [← HR4.out]; simp [*], bW⟩
          | false =>
            cases y with
            | false =>
              go_wp2_with fail
              refine (show Calls Tryd.prog 30 #[.agg (Ev.c ⟨_, _, _, _, _, _, _, _, _, _, _, _⟩), .int .u8 101] _ _ from cE _).mono ?_
              rintro e wn ⟨rfl, bb⟩
              have l1 := l1.below bb l1.lt
              have bW := bW.trans (bb.mono bW.size)
              clear f0 f1 f2 f3 f4 f5 f6 f7 f8 f9 fa fbb
              obtain ⟨f0, f1, f2, f3, f4, f5, f6, f7, f8, f9, fa, fbb⟩ := cellsX l1
              cases be with
              | true =>
                go_wp2_with fail
                go_ret
                exact ⟨by rw [← HR4.out]; simp [*], bW⟩
              | false =>
                by_cases q2 : er = 0
                · subst q2
                  go_wp2_with fail
                  go_ret
                  exact ⟨by rw [← HR4.out]; simp [*], bW⟩
                · skip
                  go_wp2_with fail
                  go_ret
                  exact ⟨by rw [← HR4.out]; simp [*], bW⟩
            | true =>
              go_wp2_with fail
              go_ret
              exact ⟨by rw [← HR4.out]; simp [*], bW⟩
        · skip
          go_wp2_with fail
          go_ret
          exact ⟨by rw [← HR4.out]; simp [*], bW⟩

end Go.Proofs.YtiaknnhfbfoeiaaDoor
