/- Contracts: All; same. -/
import Derived.Test.YtbkopghghoolmaaC4
import Derived.Test.YtbkopghghoolmaaArg
namespace Go.Proofs.Ytbkopghghoolmaa
open Go.RowKit

theorem make_nums (n : Nat) (hn : n ≤ 1048576) (W : World) :
    (Instr.makeSlice 30 (.int .i64 (n : Int)) (.int .i64 (n : Int))).run Try.prog W = .ok (.slice (some ⟨W.heap.size, 0, none⟩) n n) (W.alloc (.cells (nums (List.replicate n 0)) 44)) := by
  obtain ⟨i, hi, hz, hs, hb⟩ := info_parts (P := Try.prog) (t := 44) (z := .int .u64 0) (s := 1) (b := 8) (by kernel_rfl)
  have hr := run_make (P := Try.prog) W 30 44 i _ Try.underlying30 hi hz .i64 .i64 n n (by omega) (by omega) (by rw [hb]; omega) (by omega)
  simp only [Int.toNat_natCast, hs, Nat.mul_one] at hr
  rw [hr, ← made_zero]
  rfl

/-- behind All: a new list of what the cells have. -/
def Told (w : World) (l : List Int) (w' : World) : Prop := Lies w' w.heap.size 44 (nums l) ∧ Below w.heap.size w w' ∧ w.heap.size < w'.heap.size

/-- the first m numbers of l, and 0 for the others. -/
def front (l : List Int) (m : Nat) : List Int := (List.range l.length).map fun i => if i < m then getA l (i : Nat) else 0

theorem front_length (l : List Int) (m : Nat) : (front l m).length = l.length := by simp [front]

theorem front_zero (l : List Int) : front l 0 = List.replicate l.length 0 := by
  apply List.ext_getElem
  · simp [front]
  · intro i h1 h2; simp [front]

theorem front_all (l : List Int) : front l l.length = l := by
  apply List.ext_getElem
  · simp [front]
  · intro i h1 h2; simp [front, h2, getA_nat h2]

theorem front_set (l : List Int) (m : Nat) : (front l m).set m (getA l m) = front l (m + 1) := by
  apply List.ext_getElem
  · simp [front]
  · intro i h1 h2
    rw [List.getElem_set]
    by_cases hi : m = i
    · subst hi; simp [front]
    · simp only [hi, if_false, front, List.getElem_map, List.getElem_range]
      by_cases h3 : i < m
      · rw [if_pos h3, if_pos (by omega)]
      · rw [if_neg h3, if_neg (by omega)]

set_option maxHeartbeats 1000000 in
theorem all_any (p c : Nat) (l : List Int) (k : Int) (w : World) (h : Arena w p c l k) :
    Calls Try.prog 16 #[.pointer (some ⟨p, 0, none⟩)] w fun e w' => e = .returned (.slice (some ⟨w.heap.size, 0, none⟩) l.length l.length) ∧ Told w l w' := by
  have hm := make_nums l.length h.most
  have h0 := h.head.cell 0
  simp at h0
  have hpl := h.head.lt
  have hcl := h.body.lt
  have hmost := h.most
  go_enter Try.func16, Try.ntmps16
  go_wp2_with fail
  have hat : Lies (w.alloc (.cells (nums (List.replicate l.length 0)) 44)) w.heap.size 44 (nums (front l 0)) ∧ Below w.heap.size w (w.alloc (.cells (nums (List.replicate l.length 0)) 44)) ∧ w.heap.size < (w.alloc (.cells (nums (List.replicate l.length 0)) 44)).heap.size :=
    ⟨by rw [front_zero]; exact Lies.new _ _ _, (Below.refl _ _).alloc (Nat.le_refl _) _, by simp⟩
  go_loopw [13] (fun i W => ∃ m : Nat, m ≤ l.length ∧ i = .int .i64 m ∧ Lies W w.heap.size 44 (nums (front l m)) ∧ Below w.heap.size w W ∧ w.heap.size < W.heap.size) (fun i _ => l.length - (intOf i).toNat)
  case atStart => exact ⟨0, by omega, rfl, hat⟩
  case round =>
    clear hat hm
    obtain ⟨m, hml, rfl, hl, hb, hz⟩ := hrel
    have ha := h.below hb hpl hcl
    by_cases hlt : m < l.length
    · have h0 := ha.head.cell 0
      have h1 := ha.body.cell m
      have h2 := hl.cell m
      have f2 := hl.frozen m
      have hfl := front_length l m
      rw [nums_at hlt] at h1
      rw [nums_at (by omega)] at h2
      simp at h0
      have HFL := Lib.hid hfl
      clear hfl
      go_wp2_with fail
      refine (aload _ _ _ _ (by simpa using h1)).mono ?_
      rintro e w1 ⟨rfl, rfl⟩
      go_wp2
      go_roundw
      case rel =>
        refine ⟨m + 1, by omega, by go_num, ?_, ?_, ?_⟩
        · rw [← front_set l m, ← nums_set]; exact hl.set m _
        · exact hb.setCell (by simp) _
        · simpa [World.setCell] using hz
      case measure => simp [intOf]; omega
    · obtain rfl : m = l.length := by omega
      rw [front_all] at hl
      go_wp2
      go_ret
      exact ⟨rfl, hl, hb, hz⟩

theorem nums_row {w : World} {g : Nat} {t : TypeId} {l : List Int} (h : Lies w g t (nums l)) (hf : ∀ x, x ∈ l → N64 x) (hl : l.length ≤ 1048576) : Row w .u64 (some ⟨g, 0, none⟩) l.length l := by
  refine ⟨rfl, by simp only [maxLen]; omega, fun x hx => ?_, fun hn => ⟨_, rfl, h.lt, fun i hi => ?_⟩⟩
  · obtain ⟨h0, h1⟩ := hf x hx
    exact WalkArith.wf_u64 (by omega)
  · have h1 := h.cell i
    rw [nums_at hi, getA_nat hi] at h1
    rw [show (Addr.mk g 0 none).add i = ⟨g, i, none⟩ by unfold Addr.add; split <;> simp_all]
    simpa [List.getD, hi] using h1

end Go.Proofs.Ytbkopghghoolmaa
