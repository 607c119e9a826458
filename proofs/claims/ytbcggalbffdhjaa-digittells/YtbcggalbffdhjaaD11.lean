/- The document's Digit, Top and Floor. -/
import Derived.Test.YtbcggalbffdhjaaD10
namespace Go.Proofs.Ytbcggalbffdhjaa
open Go.RowKit

theorem digN_cut {T S : Nat} (h : T < 4294967296) (hS : 2 ≤ S) (q : Nat) : digN T S (lN q) = digN T S q := by
  by_cases h1 : q ≤ 32
  · rw [show lN q = q by unfold lN; rw [lv_same (by omega) (by omega)]; omega]
  · rw [digN_high h hS (show 32 ≤ lN q by unfold lN lv; split <;> (try split) <;> omega), digN_high h hS (by omega)]

theorem rdigit_any (t l b : Int) (w : World) :
    Calls Try.prog 10 #[.int .i64 t, .int .i64 l, .int .i64 b] w fun e w' => e = .returned (.int .i64 (dig t l b)) ∧ Keeps w w' := by
  have c1 := fun v => rdigits_any t b v
  obtain ⟨s0, s1⟩ := sN_in b
  have ht := tN_lt t
  unfold dig
  generalize sN b = S at *
  generalize tN t = T at *
  rcases (by omega : (l < 0) ∨ (0 ≤ l ∧ 39 < l) ∨ (0 ≤ l ∧ l ≤ 39)) with h | ⟨h0, h1⟩ | ⟨h0, h1⟩
  · have hidx : ∀ W, (Instr.index 35 (.agg (vec 40 (digs T S 40))) (.int .i64 0)).run Try.prog W = .ok (.int .i64 (digN T S 0 : Nat)) W := fun W => by
      rw [← digs_at T S (show 0 < 40 by omega)]; exact index_vec arr5 (digs T S 40) 0 (by omega) W
    rw [show lN l = 0 by unfold lN lv; split <;> (try split) <;> omega]
    go_enter Try.func10, Try.ntmps10
    go_wp2_with fail
    refine (c1 _).mono ?_
    rintro e w1 ⟨rfl, k1⟩
    go_wp2
    go_ret
    exact ⟨rfl, k1⟩
  · rw [digN_high ht s0 (show 32 ≤ lN l by unfold lN lv; split <;> (try split) <;> omega)]
    go_enter Try.func10, Try.ntmps10
    go_wp2
    go_ret
    exact ⟨rfl, Keeps.refl _⟩
  · obtain ⟨q, rfl⟩ := Int.eq_ofNat_of_zero_le h0
    have hidx := index_vec arr5 (digs T S 40) q (by omega)
    rw [digs_at T S (by omega)] at hidx
    rw [digN_cut ht s0]
    go_enter Try.func10, Try.ntmps10
    go_wp2_with fail
    refine (c1 _).mono ?_
    rintro e w1 ⟨rfl, k1⟩
    go_wp2
    go_ret
    exact ⟨rfl, k1⟩

/-- a time's forty digits, in a block of the call's own. -/
structure DigAt (w : World) (g T S : Nat) (W : World) : Prop where
  arr : Lies W g 35 (vec 40 (digs T S 40))
  keep : Keeps w W
  own : w.heap.size ≤ g
theorem DigAt.drewN {w W : World} {g T S : Nat} (h : DigAt w g T S W) (n : Nat) : DigAt w g T S (W.drewN n) := ⟨h.arr, h.keep.drewN n, h.own⟩
theorem DigAt.keeps {w W W' : World} {g T S : Nat} (h : DigAt w g T S W) (k : Keeps W W') : DigAt w g T S W' := ⟨h.arr.below k h.arr.lt, h.keep.trans k, h.own⟩
theorem DigAt.cell {w W : World} {g T S : Nat} (h : DigAt w g T S W) {q : Nat} (hq : q < 40) : W.cell? ⟨g, q, none⟩ = some (.int .i64 (digN T S q : Nat)) := (h.arr.cell q).trans ((vec_at hq).trans (by rw [digs_at T S hq]))
theorem DigAt.mk' {w w1 w2 w3 : World} {T S : Nat} (k1 : Keeps w w1) (n2 : New1 w1 w2 35 (vec 40 fun _ => .int .i64 0)) (n3 : Over w2 w3 w1.heap.size 35 (vec 40 (digs T S 40))) : DigAt w w1.heap.size T S w3 ∧ Keeps w1 w3 := by
  have h1 := n2.size
  have h2 := k1.size
  have k3 : Keeps w1 w3 := Below.trans n2.below (n3.turns.below (by simp) (by omega))
  exact ⟨⟨n3.lies, k1.trans k3, k1.size⟩, k3⟩

theorem top_step {A B S q : Nat} (h : A / S ^ (q + 1) = B / S ^ (q + 1)) : (digN A S q = digN B S q) ↔ A / S ^ q = B / S ^ q := by
  have h1 := step A S q
  have h2 := step B S q
  rw [h] at h1
  constructor
  · intro e; rw [e] at h1; omega
  · intro e; omega

set_option maxHeartbeats 2000000 in
theorem rtop_any (a c b : Int) (w : World) :
    Calls Try.prog 12 #[.int .i64 a, .int .i64 c, .int .i64 b] w fun e w' => e = .returned (.int .i64 (top a c b)) ∧ Keeps w w' := by
  have c1 := fun v => rdigits_any a b v
  have c2 := fun v => rdigits_any c b v
  obtain ⟨s0, s1⟩ := sN_in b
  have ha := tN_lt a
  have hc := tN_lt c
  unfold top
  generalize sN b = S at *
  generalize tN a = A at *
  generalize tN c = C at *
  have HT := Lib.hid (fun n (h : A / S ^ n = C / S ^ n) k => (top_is ha hc s0).one (IsTop.mk' (n := n) h k))
  have HS := Lib.hid (fun q h => top_step (A := A) (B := C) (S := S) (q := q) h)
  have H40 := Lib.hid (show A / S ^ 40 = C / S ^ 40 by rw [high ha s0 (by omega), high hc s0 (by omega)])
  go_enter Try.func12, Try.ntmps12
  go_wp2_with fail
  refine (c1 _).mono ?_
  rintro e w1 ⟨rfl, k1⟩
  go_upto_region 2 with (first
    | ((with_reducible refine wpList_valloc arr5 rfl rfl ?_); intro w2 n2)
    | ((with_reducible refine wpList_vstore (b := w1.heap.size) (f := digs A S 40) arr5 rfl (.tmp 7) (.tmp 12) rfl ?_ ?_ n2.lies vec_size (digs_one A S 40) ?_)
       · rfl
       · rfl
       intro w3 n3)
    | fail)
  obtain ⟨d1, k3⟩ := DigAt.mk' k1 n2 n3
  clear k1 n2 n3 k3
  generalize w1.heap.size = g at *
  go_wp2_with fail
  refine (c2 _).mono ?_
  rintro e w4 ⟨rfl, k4⟩
  have d1 := d1.keeps k4
  have k4' := d1.keep
  go_upto_region 3 with (first
    | ((with_reducible refine wpList_valloc arr5 rfl rfl ?_); intro w5 n5)
    | ((with_reducible refine wpList_vstore (b := w4.heap.size) (f := digs C S 40) arr5 rfl (.tmp 8) (.tmp 15) rfl ?_ ?_ n5.lies vec_size (digs_one C S 40) ?_)
       · rfl
       · rfl
       intro w6 n6)
    | fail)
  obtain ⟨d2, k6⟩ := DigAt.mk' k4' n5 n6
  have d1 := d1.keeps k6
  clear k4 k4' n5 n6 k6
  generalize w4.heap.size = r at *
  go_wp2_with fail
  go_loopw [9] (fun i W => ∃ (m : Nat) (z : Int), m ≤ 40 ∧ z = (m : Int) - 1 ∧ i = .int .i64 z ∧ Hid (A / S ^ m = C / S ^ m) ∧ DigAt w g A S W ∧ DigAt w r C S W) (fun i _ => (intOf i + 1).toNat)
  case atStart => exact ⟨40, _, by omega, by omega, rfl, H40, d1, d2⟩
  case round =>
    clear d1 d2
    obtain ⟨m, z, hm, hz, rfl, he, d1, d2⟩ := hrel
    rcases m with _ | q
    · obtain rfl : z = -1 := by omega
      clear hz
      have ht := HT.out 0 he.out (.inl rfl)
      go_wp2
      go_ret
      exact ⟨ret_int (by rw [ht]; rfl), d1.keep⟩
    · obtain rfl : z = (q : Int) := by omega
      have hq : q < 40 := by omega
      have e1 := d1.cell hq
      have e2 := d2.cell hq
      have f1 := d1.arr.frozen q
      have f2 := d2.arr.frozen q
      by_cases hd : digN A S q = digN C S q
      · have he' := Lib.hid ((HS.out q he.out).1 hd)
        rw [← hd] at e2
        clear hd hz
        generalize digN A S q = X at *
        go_wp2_with fail
        go_quiet (fail)
        go_wp2
        go_roundw
        case rel => exact ⟨q, _, by omega, by omega, rfl, he', d1.drewN _, d2.drewN _⟩
        case measure => simp [intOf] <;> omega
      · have ht := Lib.hid (HT.out (q + 1) he.out (.inr (fun h => hd ((HS.out q he.out).2 h))))
        have hd' : (((digN A S q : Nat) : Int) == ((digN C S q : Nat) : Int)) = false := beq_eq_false_iff_ne.2 (by omega)
        clear hd hz
        generalize digN A S q = X at *
        generalize digN C S q = Y at *
        go_wp2_with fail
        go_quiet (fail)
        go_wp2
        go_ret
        exact ⟨ret_int (by rw [ht.out]; omega), d1.keep.drewN _⟩

/-- what the document's Floor has gathered down to a level. -/
def FL (A S L m : Nat) : Nat := A / S ^ max m L * S ^ (max m L - m)
theorem FL_le (A : Nat) {S : Nat} (hS : 2 ≤ S) (L m : Nat) : FL A S L m ≤ A := by
  unfold FL
  have h1 : S ^ (max m L - m) ≤ S ^ max m L := Nat.pow_le_pow_right (by omega) (by omega)
  exact Nat.le_trans (Nat.mul_le_mul_left _ h1) (Nat.div_mul_le_self _ _)
theorem FL_up (A S L q : Nat) (h : L ≤ q) : FL A S L (q + 1) * S + digN A S q = FL A S L q := by
  unfold FL
  rw [show max (q + 1) L = q + 1 by omega, show max q L = q by omega, Nat.sub_self, Nat.sub_self, Nat.pow_zero, Nat.mul_one, Nat.mul_one, Nat.mul_comm]
  exact (step A S q).symm
theorem FL_down (A S L q : Nat) (h : q < L) : FL A S L (q + 1) * S = FL A S L q := by
  unfold FL
  rw [show max (q + 1) L = L by omega, show max q L = L by omega, Nat.mul_assoc, ← Nat.pow_succ, show (L - (q + 1)).succ = L - q by omega]
theorem FL_start {A S : Nat} (hA : A < 4294967296) (hS : 2 ≤ S) (L : Nat) : FL A S L 40 = 0 := by
  unfold FL
  rw [high hA hS (by omega), Nat.zero_mul]
theorem FL_end {A S : Nat} (hA : A < 4294967296) (hS : 2 ≤ S) (l : Int) : FL A S l.toNat 0 = floN A S (lN l) := by
  unfold FL
  rw [show max 0 l.toNat = l.toNat by omega, Nat.sub_zero]
  show floN A S l.toNat = _
  by_cases h : l.toNat ≤ 32
  · rw [show lN l = l.toNat by unfold lN lv; split <;> (try split) <;> omega]
  · rw [floN_high hA hS (by omega), floN_high hA hS (show 32 ≤ lN l by unfold lN lv; split <;> (try split) <;> omega)]

set_option maxHeartbeats 2000000 in
theorem rfloor_any (t l b : Int) (w : World) :
    Calls Try.prog 14 #[.int .i64 t, .int .i64 l, .int .i64 b] w fun e w' => e = .returned (.int .i64 (flo t l b)) ∧ Keeps w w' := by
  have c1 := fun v => rdigits_any t b v
  have c2 := fun v => size_any b v
  obtain ⟨s0, s1⟩ := sN_in b
  have ha := tN_lt t
  unfold flo
  generalize sN b = S at *
  generalize tN t = A at *
  rw [← FL_end ha s0]
  have HL := Lib.hid (fun m => FL_le A s0 l.toNat m)
  have HU := Lib.hid (fun q h => FL_up A S l.toNat q h)
  have HD := Lib.hid (fun q h => FL_down A S l.toNat q h)
  have H0 := Lib.hid (FL_start ha s0 l.toNat)
  go_enter Try.func14, Try.ntmps14
  go_wp2_with fail
  refine (c1 _).mono ?_
  rintro e w1 ⟨rfl, k1⟩
  go_upto_region 2 with (first
    | ((with_reducible refine wpList_valloc arr5 rfl rfl ?_); intro w2 n2)
    | ((with_reducible refine wpList_vstore (b := w1.heap.size) (f := digs A S 40) arr5 rfl (.tmp 7) (.tmp 12) rfl ?_ ?_ n2.lies vec_size (digs_one A S 40) ?_)
       · rfl
       · rfl
       intro w3 n3)
    | fail)
  obtain ⟨d1, k3⟩ := DigAt.mk' k1 n2 n3
  clear k1 n2 n3 k3
  generalize w1.heap.size = g at *
  go_wp2_with fail
  go_loopw [8, 9] (fun n i W => ∃ (m : Nat) (z : Int), m ≤ 40 ∧ z = (m : Int) - 1 ∧ n = .int .i64 (FL A S l.toNat m : Nat) ∧ i = .int .i64 z ∧ DigAt w g A S W) (fun _ i _ => (intOf i + 1).toNat)
  case atStart => exact ⟨40, _, by omega, by omega, by rw [H0.out]; rfl, rfl, d1⟩
  case round =>
    clear d1
    obtain ⟨m, z, hm, hz, rfl, rfl, d1⟩ := hrel
    rcases m with _ | q
    · obtain rfl : z = -1 := by omega
      clear hz
      go_wp2
      go_ret
      exact ⟨rfl, d1.keep⟩
    · obtain rfl : z = (q : Int) := by omega
      have hq : q < 40 := by omega
      have e1 := d1.cell hq
      have f1 := d1.arr.frozen q
      have hl := HL.out q
      clear hz
      by_cases hd : l ≤ q
      · have hu := HU.out q (by omega)
        generalize FL A S l.toNat (q + 1) = X at *
        generalize hY : FL A S l.toNat q = Y at *
        have HY := Lib.hid hY
        clear hY
        generalize digN A S q = Z at *
        go_wp2_with fail
        refine (c2 _).mono ?_
        rintro e w4 ⟨rfl, rfl⟩
        go_wp2
        go_roundw
        case rel => exact ⟨q, _, by omega, by omega, by rw [HY.out, ← hu]; push_cast; rfl, rfl, d1⟩
        case measure => simp [intOf] <;> omega
      · have hu := HD.out q (by omega)
        generalize FL A S l.toNat (q + 1) = X at *
        generalize hY : FL A S l.toNat q = Y at *
        have HY := Lib.hid hY
        clear hY
        go_wp2_with fail
        refine (c2 _).mono ?_
        rintro e w4 ⟨rfl, rfl⟩
        go_wp2
        go_roundw
        case rel => exact ⟨q, _, by omega, by omega, by rw [HY.out, ← hu]; push_cast; rfl, rfl, d1⟩
        case measure => simp [intOf] <;> omega

end Go.Proofs.Ytbcggalbffdhjaa
