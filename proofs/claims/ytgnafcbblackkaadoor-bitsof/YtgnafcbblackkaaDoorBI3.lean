/- The law: the set of any numbers has those that are slots, each once, in whatever order they are told. -/
import Derived.Test.YtgnafcbblackkaaDoorBI2
namespace Go.Proofs.YtgnafcbblackkaaDoor
open Go.RowKit

theorem fold_bit (j : Nat) : ∀ (xs : List Int) (s : Nat), (xs.foldl wi s).testBit j = (s.testBit j || decide (j < 64 ∧ (j : Int) ∈ xs))
  | [], s => by simp
  | x :: xs, s => by
    rw [List.foldl_cons, fold_bit j xs (wi s x), wi_bit]
    by_cases h : x = j
    · subst h
      by_cases hj : j < 64
      · simp [hj]
      · simp [hj]
    · have h' : ¬ (j : Int) = x := fun e => h e.symm
      simp [h, h']
theorem of_bit (xs : List Int) (j : Nat) : (ofTo xs xs.length).testBit j = decide (j < 64 ∧ (j : Int) ∈ xs) := by
  unfold ofTo
  rw [List.take_of_length_le (Nat.le_refl _), fold_bit]
  simp
theorem mem_slots {s j : Nat} : j ∈ slots s ↔ j < 64 ∧ s.testBit j = true := by simp [slots]
theorem of_turned (xs : List Int) : ofTo xs.reverse xs.reverse.length = ofTo xs xs.length := by
  apply Nat.eq_of_testBit_eq
  intro j
  rw [of_bit, of_bit]
  simp
theorem of_list {s : Nat} (hs : s < 18446744073709551616) : ofTo ((slots s).map fun x : Nat => (x : Int)) ((slots s).map fun x : Nat => (x : Int)).length = s := by
  apply Nat.eq_of_testBit_eq
  intro j
  rw [of_bit]
  have : ((j : Int) ∈ (slots s).map fun x : Nat => (x : Int)) ↔ j ∈ slots s := by
    rw [List.mem_map]
    constructor
    · rintro ⟨k, hk, e⟩
      obtain rfl : k = j := by omega
      exact hk
    · intro h; exact ⟨j, h, rfl⟩
  rw [Bool.eq_iff_iff]
  simp only [decide_eq_true_eq]
  rw [this, mem_slots]
  constructor
  · rintro ⟨_, _, h⟩; exact h
  · intro h
    have hj : j < 64 := by
      rcases Nat.lt_or_ge j 64 with h1 | h1
      · exact h1
      · rw [high_bit hs h1] at h; cases h
    exact ⟨hj, hj, h⟩
theorem has_of {xs : List Int} {x : Int} (h : x ∈ xs) : has (ofTo xs xs.length) x = decide (0 ≤ x ∧ x < 64) := by
  unfold has
  by_cases h0 : 0 ≤ x
  · obtain ⟨j, rfl⟩ := Int.eq_ofNat_of_zero_le h0
    simp only [Int.toNat_natCast, of_bit]
    by_cases hj : j < 64
    · have : (j : Int) < 64 := by omega
      simp [hj, h, this]
    · have : ¬ (j : Int) < 64 := by omega
      simp [hj, this]
  · simp [h0]

/-- is it among the first? -/
def anyTo (xs : List Int) (q : Nat) (y : Int) : Bool := (xs.take q).any (· == y)
theorem anyTo_succ (xs : List Int) (q : Nat) (y : Int) (h : q < xs.length) : anyTo xs (q + 1) y = (anyTo xs q y || (xs.getD q 0 == y)) := by
  unfold anyTo
  rw [List.take_succ_eq_append_getElem h, List.any_append]
  simp [List.getD, h]
theorem any_slot {xs : List Int} {j : Nat} (h : j ∈ slots (ofTo xs xs.length)) : anyTo xs xs.length j = true := by
  have h2 := (mem_slots.1 h).2
  rw [of_bit] at h2
  simp at h2
  unfold anyTo
  rw [List.take_of_length_le (Nat.le_refl _)]
  simpa using h2.2

/-- the numbers up to m, turned round. -/
def revTo (xs : List Int) (m : Nat) : List Int := (xs.take m).reverse
theorem revTo_succ (xs : List Int) (m : Nat) (h : m < xs.length) : revTo xs (m + 1) = [xs.getD m 0] ++ revTo xs m := by
  unfold revTo
  rw [List.take_succ_eq_append_getElem h, List.reverse_append]
  simp [List.getD, h]
theorem revTo_all (xs : List Int) : revTo xs xs.length = xs.reverse := by unfold revTo; rw [List.take_of_length_le (Nat.le_refl _)]
theorem revTo_length (xs : List Int) (m : Nat) (h : m ≤ xs.length) : (revTo xs m).length = m := by simp [revTo]; omega

set_option maxRecDepth 100000 in
set_option maxHeartbeats 4000000 in
theorem of6_law (A : Option Addr) (n cp : Nat) (xs : List Int) (w : World) (hr : Row w .i64 A n xs) (hT : Tab w) :
    Calls Tryd.prog 4 #[.slice A n cp] w fun e w' => e = .returned (.bool true) ∧ Below w.heap.size w w' := by
  have hmx := hr.most
  unfold maxLen at hmx
  have hln := hr.len
  by_cases hlen : n ≤ 100
  · have c0 := fun v (k : Below w.heap.size w v) => of_any A n cp xs v (hr.keep (Nat.le_refl _) k)
    have hs := ofTo_lt xs n
    have hrt : ofTo xs.reverse n = ofTo xs n := by have := of_turned xs; rw [List.length_reverse, hln] at this; exact this
    have hli := of_list hs
    have hhas : ∀ x, x ∈ xs → has (ofTo xs n) x = decide (0 ≤ x ∧ x < 64) := fun x hx => by have := has_of hx; rwa [hln] at this
    have hany : ∀ j, j ∈ slots (ofTo xs n) → anyTo xs n j = true := fun j hj => by have := any_slot (xs := xs) (j := j) (by rw [hln]; exact hj); rwa [hln] at this
    generalize ofTo xs n = s at *
    go_enter Tryd.func4, Tryd.ntmps4
    go_wp2_with fail
    refine (speaks6_any _ hT).mono ?_
    rintro e w1 ⟨rfl, k1⟩
    go_wp2_with fail
    refine (c0 w1 k1).mono ?_
    rintro e w' ⟨rfl, rfl⟩
    go_wp2_with fail
    go_loopw [4, 24] (fun v u wr => ∃ m : Nat, m ≤ n ∧ u = .int .i64 m ∧ IRow wr w.heap.size v (revTo xs m) ∧ Below w.heap.size w wr) (fun _ u _ => n - (intOf u).toNat)
    case atStart => exact ⟨0, by omega, rfl, IRow.nil _ _, k1⟩
    case round =>
      obtain ⟨m, hmn, rfl, hI, hB⟩ := hrel
      by_cases hlt : m < n
      · obtain ⟨a, rfl, hab, hcell⟩ := hr.at_ (by omega)
        have hc := ((hB.cell (p := a.add m) (by rw [add_block]; exact hab))).trans (hcell m hlt)
        have hwf := hr.wf (xs.getD m 0) (by simp [List.getD, show m < xs.length by omega])
        have hx := bounds_i64 hwf
        have hmem : xs.getD m 0 ∈ xs := by simp [List.getD, show m < xs.length by omega]
        have hh := hhas _ hmem
        have HR := Lib.hid (revTo_succ xs m (by omega))
        have HL := revTo_length xs m (by omega)
        generalize xs.getD m 0 = y at *
        obtain ⟨A4, cp4, rfl, hrow4⟩ := hI.row
        rw [HL] at hrow4 ⊢
        have hL := IRow.lit wr (B := w.heap.size) [y] #[.int .i64 y] rfl hB.size (Ints.one hwf) (by simp)
        have hrow5 := hrow4.keep (Nat.le_refl _) ((Below.refl wr.heap.size wr).alloc (Nat.le_refl _) (.cells #[.int .i64 y] 3))
        have hB1 : Below w.heap.size w (wr.alloc (.cells #[.int .i64 y] 3)) := hB.alloc hB.size _
        have cH := fun v => has_any hs y v
        rw [hh] at cH
        clear hcell hr hrow4 hhas hany
        have hW1 : (wr.alloc (.cells #[.int .i64 y] 3)).heap.size = wr.heap.size + 1 := by simp
        rcases Nat.eq_zero_or_pos m with hm0 | hm0
        · obtain ⟨i0, hi0, _⟩ := info_parts int_info4
          have HM0 := Lib.hid hm0
          clear hm0
          go_wp2_with (first | (at_builtin; refine wpList_irow_zero rfl (.tmp 29) (.tmp 30) 32 rfl 3 i0 Tryd.underlying32 hi0 _ 1 1 A4 m cp4 HM0.out (by omega) rfl rfl ?_) | fail)
          refine (cH _).mono ?_
          rintro e w2 ⟨rfl, rfl⟩
          rcases (by omega : y < 0 ∨ (0 ≤ y ∧ y < 64) ∨ (0 ≤ y ∧ 64 ≤ y)) with hy | ⟨hy, hy2⟩ | ⟨hy, hy2⟩
          all_goals
            first
              | rw [show decide (0 ≤ y ∧ y < 64) = true by simp; omega]
              | rw [show decide (0 ≤ y ∧ y < 64) = false by simp; omega]
            go_wp2
            go_roundw
            case rel => exact ⟨m + 1, by omega, by go_num, by rw [HR.out, show revTo xs m = [] by rw [HM0.out]; rfl]; exact hL, hB1⟩
            case measure => simp [intOf]; omega
        · go_wp2_with (first | (at_builtin; refine wpList_irow hL (by rw [hW1]; have := hB.size; omega) rfl (.tmp 29) (.tmp 30) rfl rfl rfl hrow5 hm0 (by simp; omega) ?_; intro v' w2 hI2 hb2 _) | fail)
          refine (cH _).mono ?_
          rintro e w2 ⟨rfl, rfl⟩
          rcases (by omega : y < 0 ∨ (0 ≤ y ∧ y < 64) ∨ (0 ≤ y ∧ 64 ≤ y)) with hy | ⟨hy, hy2⟩ | ⟨hy, hy2⟩
          all_goals
            first
              | rw [show decide (0 ≤ y ∧ y < 64) = true by simp; omega]
              | rw [show decide (0 ≤ y ∧ y < 64) = false by simp; omega]
            go_wp2
            go_roundw
            case rel => exact ⟨m + 1, by omega, by go_num, by rw [HR.out]; exact hI2, hB1.trans hb2⟩
            case measure => simp [intOf]; omega
      · obtain rfl : m = n := by omega
        have hT2 : Tab wr := hT.keep hB
        obtain ⟨A4, cp4, rfl, hrow4⟩ := hI.row
        rw [revTo_length xs m (by omega)] at hrow4 ⊢
        have hrev : revTo xs m = xs.reverse := by rw [← hln]; exact revTo_all xs
        rw [hrev] at hrow4
        have cL := fun v hv => list_any hs v hv
        have hL64 : ((slots s).map fun x : Nat => (x : Int)).length ≤ 64 := by have := cnt_le s; simpa [cnt] using this
        have hmemL : ∀ q, q < ((slots s).map fun x : Nat => (x : Int)).length → ∃ j : Nat, ((slots s).map fun x : Nat => (x : Int)).getD q 0 = j ∧ j ∈ slots s := fun q hq => by
          have hq' : q < (slots s).length := by simpa using hq
          exact ⟨(slots s)[q], by simp [List.getD, hq'], List.getElem_mem _⟩
        generalize ((slots s).map fun x : Nat => (x : Int)) = L at *
        clear hI c0 hhas hlt hmn
        go_wp2_with fail
        refine (cL wr hT2).mono ?_
        rintro e w2 ⟨v, rfl, hI2, hb2⟩
        obtain ⟨A5, cp5, rfl, hrow5⟩ := hI2.row
        have hB2 := hB.trans (hb2.mono hB.size)
        go_wp2_with fail
        go_loopw [46] (fun u wr2 => ∃ q : Nat, q ≤ L.length ∧ u = .int .i64 q ∧ wr2 = w2) (fun u _ => L.length - (intOf u).toNat)
        case atStart => exact ⟨0, by omega, rfl, rfl⟩
        case round =>
          obtain ⟨q, hqL, rfl, rfl⟩ := hrel
          by_cases hlt : q < L.length
          · obtain ⟨a5, rfl, hab5, hcell5⟩ := hrow5.at_ (by omega)
            have hc5 := hcell5 q hlt
            obtain ⟨j, hj1, hj2⟩ := hmemL q hlt
            rw [hj1] at hc5
            have hyes := hany j hj2
            have hj64 : j < 64 := (mem_slots.1 hj2).1
            clear hcell5 hj1 hmemL hany cL
            go_wp2_with fail
            go_loopw [9, 52] (fun b u wr3 => ∃ p : Nat, p ≤ m ∧ u = .int .i64 p ∧ b = .bool (anyTo xs p j) ∧ wr3 = wr) (fun _ u _ => m - (intOf u).toNat)
            case atStart => exact ⟨0, by omega, rfl, rfl, rfl⟩
            case round =>
              obtain ⟨p, hpm, rfl, rfl, rfl⟩ := hrel
              by_cases hpl : p < m
              · obtain ⟨a, rfl, hab, hcell⟩ := hr.at_ (by omega)
                have hc := ((hB2.cell (p := a.add p) (by rw [add_block]; exact hab))).trans (hcell p hpl)
                have HA := Lib.hid (anyTo_succ xs p j (by omega))
                clear hcell hr
                generalize xs.getD p 0 = y at *
                cases hb : anyTo xs p j with
                | true =>
                  rw [hb] at HA
                  go_wp2
                  go_roundw
                  case rel => exact ⟨p + 1, by omega, by go_num, by rw [HA.out]; rfl, by first | rfl | trivial⟩
                  case measure => simp [intOf]; omega
                | false =>
                  rw [hb] at HA
                  go_wp2
                  go_roundw
                  case rel => exact ⟨p + 1, by omega, by go_num, by rw [HA.out]; simp, by first | rfl | trivial⟩
                  case measure => simp [intOf]; omega
              · obtain rfl : p = m := by omega
                rw [hyes]
                go_wp2
                go_roundw
                case rel => exact ⟨q + 1, by omega, by go_num, by first | rfl | trivial⟩
                case measure => simp [intOf]; omega
          · obtain rfl : q = L.length := by omega
            have hT3 : Tab wr := hT.keep hB2
            have c5 := of_any A4 m cp4 xs.reverse wr (by have := hrow4.keep (Nat.le_refl _) hb2; exact this)
            rw [hrt] at c5
            have cL := cL wr hT3
            clear hany hmemL
            go_wp2_with fail
            refine c5.mono ?_
            rintro e w3 ⟨rfl, rfl⟩
            go_wp2_with fail
            refine cL.mono ?_
            rintro e w4 ⟨v6, rfl, hI6, hb6⟩
            obtain ⟨A6, cp6, rfl, hrow6⟩ := hI6.row
            have c6 := of_any A6 L.length cp6 L w4 hrow6
            rw [hli] at c6
            have HB4 := Lib.hid (hB2.trans (hb6.mono hB2.size))
            clear cL c5 hI6 hb6 hrow6
            go_wp2_with fail
            refine c6.mono ?_
            rintro e w5 ⟨rfl, rfl⟩
            go_wp2
            go_ret
            exact ⟨ret_bool (by simp), HB4.out⟩
  · go_enter Tryd.func4, Tryd.ntmps4
    go_wp2_with fail
    refine (speaks6_any _ hT).mono ?_
    rintro e w1 ⟨rfl, k1⟩
    go_wp2_with fail
    refine (speaks6_any _ (hT.keep k1)).mono ?_
    rintro e w2 ⟨rfl, k2⟩
    go_wp2
    go_ret
    exact ⟨rfl, k1.trans k2⟩

end Go.Proofs.YtgnafcbblackkaaDoor
