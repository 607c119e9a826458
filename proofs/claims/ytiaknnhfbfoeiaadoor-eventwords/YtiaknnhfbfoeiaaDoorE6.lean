/- Events, the document's: which fields an event has. -/
import Derived.Test.YtiaknnhfbfoeiaaDoorE5
import Derived.LoopN
namespace Go.Proofs.YtiaknnhfbfoeiaaDoor
open Go.RowKit Go.ChangeShapes Go.WideShapes
set_option maxRecDepth 100000

def inB (n : Int) (l : List Int) : Bool := l.any (· == n)
theorem inB_none {n : Int} {l : List Int} (h : ∀ t, t < l.length → (l.getD t 0 == n) = false) : inB n l = false := by
  unfold inB
  rw [List.any_eq_false]
  intro x hx
  obtain ⟨i, hi, rfl⟩ := List.getElem_of_mem hx
  have := h i hi
  simp [List.getD, hi] at this
  simpa using this
theorem inB_some {n : Int} {l : List Int} {t : Nat} (ht : t < l.length) (h : (l.getD t 0 == n) = true) : inB n l = true := by
  unfold inB
  rw [List.any_eq_true]
  refine ⟨l[t], List.getElem_mem _, ?_⟩
  simpa [List.getD, ht] using h
theorem in_any (n : Int) (l : List Int) (hl : l.length = 3) (b cp : Nat) (w : World) (hc : ∀ j, j < 3 → w.cell? ⟨b, j, none⟩ = some (.int .i64 (l.getD j 0))) : Calls Tryd.prog 44 #[.int .i64 n, .slice (some ⟨b, 0, none⟩) 3 cp] w fun e w' => e = .returned (.bool (inB n l)) ∧ w = w' := by
  have HN := Lib.hid (fun h => inB_none (n := n) (l := l) h)
  have HS := Lib.hid (fun t h1 h2 => inB_some (n := n) (l := l) (t := t) h1 h2)
  have HC := Lib.hid hc
  clear hc
  generalize inB n l = r at *
  go_enter Tryd.func44, Tryd.ntmps44
  go_wp2_with fail
  go_loopw [5] (fun i wr => ∃ j : Nat, i = .int .i64 (j : Int) ∧ j ≤ 3 ∧ wr = w ∧ ∀ t, t < j → (l.getD t 0 == n) = false) (fun i _ => 3 - (intOf i).toNat)
  case atStart => exact ⟨0, rfl, by omega, rfl, fun t ht => by omega⟩
  case round =>
    obtain ⟨j, rfl, hj, rfl, hn⟩ := hrel
    by_cases h3 : j < 3
    · have h3' : (j : Int) < 3 := by omega
      have hcj := HC.out j h3
      have HNN := Lib.hid hn
      obtain ⟨y, hy⟩ : ∃ y, l.getD j 0 = y := ⟨_, rfl⟩
      rw [hy] at hcj
      have HYY := Lib.hid hy
      clear hn hy
      cases hyb : (y == n) with
      | true =>
        have HR : Hid (r = true) := Lib.hid (HS.out j (by omega) (by rw [HYY.out]; exact hyb))
        go_wp2
        go_ret
        exact ⟨by rw [HR.out]; rfl, rfl⟩
      | false =>
        have HY := Lib.hid hyb
        go_wp2
        go_roundw
        case rel => exact ⟨j + 1, by go_num, by omega, by trivial, fun t ht => by
          rcases (by omega : t < j ∨ t = j) with h | h
          · exact HNN.out t h
          · subst h; rw [HYY.out]; exact HY.out⟩
        case measure => simp [intOf]; omega
    · have h3' : ¬ ((j : Int) < 3) := by omega
      have HR : Hid (r = false) := Lib.hid (HN.out fun t ht => hn t (by omega))
      clear hn
      go_wp2
      go_ret
      exact ⟨by rw [HR.out]; rfl, rfl⟩

end Go.Proofs.YtiaknnhfbfoeiaaDoor
