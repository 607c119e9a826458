/- For every four bytes and all numbers InboxDrains returns true, and its arguments read as before. -/
import Derived.Test.YthkklcmmbpffiaaRows
import Derived.Test.YthkklcmmbpffiaaUE8
import Derived.WalkKit
import Derived.ProofKit
import Derived.OpenShut
import Derived.ShutString
import Derived.ChangeOld
import Derived.Below
namespace Go.Proofs.Ythkklcmmbpffiaa.inboxDrains
open Go.ChangeShapes Go.WideShapes Go.ChangeAt Go.RowKit
set_option linter.unusedVariables false

theorem own : ownKnob Try.prog.godebug = none := by kernel_rfl
theorem laidOut : laidOutB Try.prog = true := by kernel_rfl
theorem list_four (l : List Value) (h : l.length = 4) : ∃ a b c d, l = [a, b, c, d] := by
  match l, h with
  | [a, b, c, d], _ => exact ⟨a, b, c, d, rfl⟩


set_option maxRecDepth 100000 in
theorem lifted (os : Os) (started : os.Started) (H : Type) (enc : TypeId × Value → H) :
    ReturnsInHanded {} Try.checked os 9 .any (Rows.inboxDrainsSpec.pre6 enc Try.prog Try.f9 Rows.inboxDrainsRow.domain false) (Rows.inboxDrainsSpec.post enc Try.prog Try.f9 false true false false) := by
  refine returnsInHanded_of_change (C := Try.checked) own started (by kernel_rfl) Try.func9
    (ChangeSpec.witness6 (enc := enc) (C := Try.checked) false ⟨#[], #[.agg #[.int .u8 0, .int .u8 0, .int .u8 0, .int .u8 0], .slice none 0 0], []⟩ 8 (by kernel_rfl) (by kernel_rfl) (by kernel_rfl) (by kernel_rfl)) ?_
  intro W base args ds gs before hval0 hW hcnd _
  have hval : ∀ (j : Nat) t v, Try.f9.params[j]? = some t → args[j]? = some v → Value.okWide Try.prog W .any base t v := hval0
  have hW' := hW
  obtain ⟨p, q, hA0, hV, rfl, hfz, hnd⟩ := hW
  have hA : DataW.TrodAll enc Try.prog W 0 (fun _ => true) true Try.f9.params.toList args.toList ds p := hA0
  rw [Try.params9] at hA hval
  obtain ⟨v0, vs0, d0, ds0, p0, q0, hargs, rfl, rfl, h0, r0⟩ := trodAll_cons hA
  obtain ⟨v1, vs1, d1, ds1, p1, q1, rfl, rfl, rfl, h1, r1⟩ := trodAll_cons r0
  obtain ⟨rfl, rfl, rfl⟩ := trodAll_nil r1
  obtain rfl : args = #[v0, v1] := by cases args; simp_all
  obtain ⟨rfl, rfl⟩ := trodVars_none hV
  have k0 := h0
  have lt0 : ∀ x ∈ p0, x.block < W.heap.size := by obtain ⟨m, hm⟩ := k0; exact DataW.trod_lt m _ _ _ hm
  obtain ⟨cs0, rfl, hsz0, _⟩ : ∃ cs, v0 = .agg cs ∧ cs.size = Try.prog.cellsOf 77 ∧ Row.okWide Try.prog W .any base 77 cs := by
    have := hval 0 77 v0 rfl rfl
    simpa [Value.okWide, Try.underlying77] using this
  rw [show Try.prog.cellsOf 77 = 4 by kernel_rfl] at hsz0
  obtain ⟨l0⟩ := cs0
  obtain ⟨c00, c01, c02, c03, rfl⟩ := list_four l0 hsz0
  obtain ⟨fuel0, hf0⟩ := h0
  obtain ⟨y00, y01, y02, y03, m0, _, hy00, hy01, hy02, hy03⟩ := trod_array4 Try.underlying77 (by kernel_rfl) hf0
  obtain ⟨x00, e00, -, w00⟩ := DataW.trod_int Try.underlying5 hy00
  obtain ⟨x01, e01, -, w01⟩ := DataW.trod_int Try.underlying5 hy01
  obtain ⟨x02, e02, -, w02⟩ := DataW.trod_int Try.underlying5 hy02
  obtain ⟨x03, e03, -, w03⟩ := DataW.trod_int Try.underlying5 hy03
  simp at e00 e01 e02 e03
  subst e00 e01 e02 e03
  have k1 := h1
  have lt1 : ∀ x ∈ p1, x.block < W.heap.size := by obtain ⟨m, hm⟩ := k1; exact DataW.trod_lt m _ _ _ hm
  obtain ⟨a1, len1, cap1, rfl⟩ := okWide_slice Try.underlying31 (hval 1 31 v1 rfl rfl)
  obtain ⟨z1, w1⟩ := Row.opened Try.underlying31 Try.underlying3 (by kernel_rfl) h1
  clear hA0 hval0
  refine (drains9_nat x00 x01 x02 x03 a1 len1 cap1 z1 W ⟨by have := bounds_u8 w00; omega, by have := bounds_u8 w00; omega⟩ ⟨by have := bounds_u8 w01; omega, by have := bounds_u8 w01; omega⟩ ⟨by have := bounds_u8 w02; omega, by have := bounds_u8 w02; omega⟩ ⟨by have := bounds_u8 w03; omega, by have := bounds_u8 w03; omega⟩ w1).mono fun e W' ⟨he, bel⟩ => ?_
  subst he
  exact ⟨_, rfl, _, _, _, [], _, [], hW', trodAll_mk1 (shut_bool Try.underlying4 _), (trodAll_cons_mk (Below.trod laidOut (by kernel_rfl) (of_decide_eq_true (by kernel_rfl)) k0 bel lt0) (trodAll_cons_mk (Below.trod laidOut (by kernel_rfl) (of_decide_eq_true (by kernel_rfl)) k1 bel lt1) trodAll_mk0)), rfl, bel.frame _, fun h => by cases h⟩

theorem over : Rows.inboxDrainsRow.holds Try.pinned (OpenSpec.ofChange Rows.inboxDrainsSpec) :=
  OpenClaim.holds_of_wide 9 Try.f9 rfl rfl rfl rfl rfl rfl rfl ⟨rfl, rfl, rfl, rfl, rfl⟩ rfl rfl rfl rfl rfl (by kernel_rfl) Try.func9 (by kernel_rfl)
    (of_decide_eq_true (by kernel_rfl)) (by unfold Func.isWrapper; first | (rw [if_pos (by decide +kernel)]; kernel_rfl) | (rw [if_neg (by decide +kernel)]; exact ⟨rfl, rfl⟩))
    (fun os started H enc _ => lifted os started H enc)
end Go.Proofs.Ythkklcmmbpffiaa.inboxDrains
namespace Go.Proofs.Ythkklcmmbpffiaa
theorem inboxDrains_proved : Rows.InboxDrainsSaid := inboxDrains.over
#print axioms inboxDrains_proved
end Go.Proofs.Ythkklcmmbpffiaa
