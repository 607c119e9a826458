/- Events, the document's: a number as a text. -/
import Derived.Test.YtiaknnhfbfoeiaaDoorE0
import Derived.Lib.ItoaNum
import Derived.Lib.ItoaMem
import Derived.Lib.ItoaLen
import Derived.Lib.Hide
namespace Go.Proofs.YtiaknnhfbfoeiaaDoor
open Go.RowKit Go.ChangeShapes Go.WideShapes
set_option maxRecDepth 100000

theorem digit_small {n : Int} (h0 : 0 ≤ n) (h : n < 10) : Lib.itoa n = [UInt8.ofNat (48 + n.toNat)] := by
  unfold Lib.itoa
  rw [if_neg (by omega), Lib.decDigits_one (by omega)]
theorem itoa_big {n : Int} (h : 10 ≤ n) : Lib.itoa n = Lib.itoa (n / 10) ++ Lib.itoa (n % 10) := by
  rw [digit_small (n := n % 10) (by omega) (by omega)]
  unfold Lib.itoa
  rw [if_neg (by omega), if_neg (by omega)]
  conv => lhs; rw [Lib.decDigits, dif_neg (by omega)]
  rw [show n.toNat / 10 = (n / 10).toNat by omega, show n.toNat % 10 = (n % 10).toNat by omega]
theorem itoa_neg1 {n : Int} (h : n < 0) (h10 : -10 < n) : Lib.itoa n = 45 :: Lib.itoa (-n) := by
  unfold Lib.itoa
  rw [if_pos h, if_neg (by omega), show n.natAbs = (-n).toNat by omega]
theorem itoa_neg2 {n : Int} (h : n ≤ -10) : Lib.itoa n = Lib.itoa (-((-n) / 10)) ++ Lib.itoa ((-n) % 10) := by
  rw [digit_small (n := (-n) % 10) (by omega) (by omega)]
  unfold Lib.itoa
  rw [if_pos (by omega), if_pos (by omega)]
  conv => lhs; rw [Lib.decDigits, dif_neg (by omega)]
  rw [show n.natAbs / 10 = (-(-n / 10)).natAbs by omega, show n.natAbs % 10 = ((-n) % 10).toNat by omega]
  rfl
abbrev tx (l : List UInt8) : Value := .string ⟨l.toArray⟩
theorem ba_app (a b : List UInt8) : ((⟨a.toArray⟩ : ByteArray) ++ ⟨b.toArray⟩) = ⟨(a ++ b).toArray⟩ := by
  apply ByteArray.ext
  rw [ByteArray.data_append]
  simp
theorem itoa_len {n : Int} (h0 : -9223372036854775808 ≤ n) (h1 : n ≤ 9223372036854775807) : (Lib.itoa n).length ≤ 21 := Lib.itoa_length_le n h0 h1

set_option maxHeartbeats 2000000 in
theorem decimal_any : ∀ (m : Nat) (n : Int), (2 * n.natAbs + (if n < 0 then 1 else 0)) < m → -9223372036854775808 ≤ n → n ≤ 9223372036854775807 → ∀ w, Calls Tryd.prog 29 #[.int .i64 n] w fun e w' => e = .returned (tx (Lib.itoa n)) ∧ Below w.heap.size w w' := by
  intro m
  induction m with
  | zero => intro n h; omega
  | succ m ih =>
    intro n hm h0 h1 w
    rcases (by omega : (0 ≤ n ∧ n < 10) ∨ 10 ≤ n ∨ (n < 0 ∧ -10 < n) ∨ n ≤ -10) with hs | hs | hs | hs
    · rw [digit_small hs.1 hs.2]
      have h2 := hs.1
      have h3 := hs.2
      have hw : IntKind.i64.wrap (48 + n) = 48 + n := by rw [IntKind.wrap_i64]; omega
      obtain ⟨d, hd⟩ : ∃ d, UInt8.ofNat (48 + n.toNat) = d := ⟨_, rfl⟩
      have hdn : ((d.toNat : Nat) : Int) = 48 + n := by rw [← hd, UInt8.toNat_ofNat']; omega
      rw [hd]
      have hcv : (convert 73 9 (.slice (some ⟨w.heap.size, 0, none⟩) 1 1)).run Tryd.prog (w.alloc (.cells #[.int .u8 (48 + n)] 5)) = .ok (tx [d]) (w.alloc (.cells #[.int .u8 (48 + n)] 5)) := by
        refine run_convert_bytes_back _ _ _ 5 _ 1 [d] Tryd.underlying73 Tryd.underlying5 Tryd.underlying9 fun j hj => ?_
        obtain rfl : j = 0 := by simpa using hj
        have l := (Lies.new w 5 #[.int .u8 (48 + n)]).cell 0
        rw [Addr.add_mid]
        simp only [Nat.add_zero]
        rw [l]
        show some (Value.int .u8 (48 + n)) = some (.int .u8 (d.toNat : Int))
        rw [hdn]
      have bx : Below w.heap.size w (w.alloc (.cells #[.int .u8 (48 + n)] 5)) := (Below.refl _ _).alloc (Nat.le_refl _) _
      have HC := Lib.hid hcv
      clear hs ih hcv hd hdn hm
      go_enter Tryd.func29, Tryd.ntmps29
      go_wp2_with fail
      rw [HC.out]
      simp only [Result.andThen_ok]
      go_wp2_with fail
      go_ret
      exact ⟨rfl, bx⟩
    · rw [itoa_big hs]
      obtain ⟨r, hr⟩ : ∃ r, n % 10 = r := ⟨_, rfl⟩
      obtain ⟨q, hq⟩ : ∃ q, n / 10 = q := ⟨_, rfl⟩
      have htm : n.tmod 10 = r := by rw [← hr]; exact Int.tmod_eq_emod_of_nonneg (by omega)
      have htd : n.tdiv 10 = q := by rw [← hq]; exact Int.tdiv_eq_ediv_of_nonneg (by omega)
      have hwr : IntKind.i64.wrap r = r := by rw [IntKind.wrap_i64]; omega
      have hwq : IntKind.i64.wrap q = q := by rw [IntKind.wrap_i64]; omega
      have c1 := ih q (by split <;> omega) (by omega) (by omega)
      have c2 := ih r (by split <;> omega) (by omega) (by omega)
      have n1 := itoa_len (n := q) (by omega) (by omega)
      have n2 := itoa_len (n := r) (by omega) (by omega)
      have r0 : ¬ r < 0 := by omega
      have ng : ¬ n < 0 := by omega
      have nb : ¬ n < 10 := by omega
      rw [hr, hq]
      clear ih hr hq
      generalize Lib.itoa q = sq at *
      generalize Lib.itoa r = sr at *
      go_enter Tryd.func29, Tryd.ntmps29
      go_wp2_with fail
      refine (c1 _).mono ?_
      rintro e w1 ⟨rfl, b1⟩
      go_wp2_with fail
      refine (c2 _).mono ?_
      rintro e w2 ⟨rfl, b2⟩
      have hl : ¬ (9223372036854775807 < sq.length + sr.length) := by omega
      go_wp2_with fail
      go_ret
      exact ⟨by simp [ba_app], b1.trans (b2.mono b1.size)⟩
    · rw [itoa_neg1 hs.1 hs.2]
      obtain ⟨r, hr⟩ : ∃ r, -n = r := ⟨_, rfl⟩
      have htm : n.tmod 10 = n := by
        have := Int.tmod_eq_of_lt (a := -n) (b := 10) (by omega) (by omega)
        rw [Int.neg_tmod] at this
        omega
      have htd : n.tdiv 10 = 0 := by
        have := Int.tdiv_eq_zero_of_lt (a := -n) (b := 10) (by omega) (by omega)
        rw [Int.neg_tdiv] at this
        omega
      have hwr : IntKind.i64.wrap n = n := by rw [IntKind.wrap_i64]; omega
      have hwq : IntKind.i64.wrap (-n) = r := by rw [IntKind.wrap_i64]; omega
      have HC := Lib.hid (digit_small (n := r) (by omega) (by omega))
      have n2 := itoa_len (n := r) (by omega) (by omega)
      have ng : n < 0 := by omega
      have n0 : ¬ 0 ≤ n := by omega
      have c2 := ih r (by rw [← hr]; split at hm <;> split <;> omega) (by omega) (by omega)
      rw [hr]
      have hl : ¬ (9223372036854775807 < 1 + (Lib.itoa r).length) := by omega
      have HX : Hid (([45] : List UInt8) ++ Lib.itoa r = 45 :: Lib.itoa r) := Lib.hid rfl
      clear ih hr hs hm HC h0 h1
      generalize Lib.itoa r = sr at *
      go_enter Tryd.func29, Tryd.ntmps29
      go_wp2_with fail
      refine (c2 _).mono ?_
      rintro e w2 ⟨rfl, b2⟩
      go_wp2_with fail
      go_ret
      exact ⟨by rw [← HX.out]; exact congrArg (fun b => Ending.returned (.string b)) (ba_app [45] sr), b2⟩
    · rw [itoa_neg2 hs]
      obtain ⟨r, hr⟩ : ∃ r, (-n) % 10 = r := ⟨_, rfl⟩
      obtain ⟨q, hq⟩ : ∃ q, -((-n) / 10) = q := ⟨_, rfl⟩
      have htm : n.tmod 10 = -r := by
        have h := Int.tmod_eq_emod_of_nonneg (a := -n) (b := 10) (by omega)
        rw [Int.neg_tmod] at h
        omega
      have htd : n.tdiv 10 = q := by
        have h := Int.tdiv_eq_ediv_of_nonneg (a := -n) (b := 10) (by omega)
        rw [Int.neg_tdiv] at h
        omega
      have hwq : IntKind.i64.wrap q = q := by rw [IntKind.wrap_i64]; omega
      have hwn : IntKind.i64.wrap (-r) = -r := by rw [IntKind.wrap_i64]; omega
      have hwr : IntKind.i64.wrap r = r := by rw [IntKind.wrap_i64]; omega
      have hnn : -(-r) = r := by omega
      have c1 := ih q (by split at hm <;> split <;> omega) (by omega) (by omega)
      have c2 := ih r (by split at hm <;> split <;> omega) (by omega) (by omega)
      have n1 := itoa_len (n := q) (by omega) (by omega)
      have n2 := itoa_len (n := r) (by omega) (by omega)
      have ng : n < 0 := by omega
      have n0 : ¬ 0 ≤ n := by omega
      have q0 : ¬ q = 0 := by omega
      rw [hr, hq]
      have hl : ¬ (9223372036854775807 < (Lib.itoa q).length + (Lib.itoa r).length) := by omega
      by_cases hr0 : r = 0
      · have hm0 : n.tmod 10 = 0 := by omega
        have hr0' : (0 : Int) = r := hr0.symm
        rw [← hr0'] at c2 hl n2 ⊢
        clear ih hr hq hs hm h0 h1 htm hwn hwr hnn hr0 hr0'
        generalize Lib.itoa q = sq at *
        generalize Lib.itoa 0 = sr at *
        go_enter Tryd.func29, Tryd.ntmps29
        go_wp2_with fail
        refine (c1 _).mono ?_
        rintro e w1 ⟨rfl, b1⟩
        go_wp2_with fail
        refine (c2 _).mono ?_
        rintro e w2 ⟨rfl, b2⟩
        go_wp2_with fail
        go_ret
        exact ⟨by simp [ba_app], b1.trans (b2.mono b1.size)⟩
      · have hm0 : -r < 0 := by omega
        clear ih hr hq hs hm h0 h1 hr0
        generalize Lib.itoa q = sq at *
        generalize Lib.itoa r = sr at *
        go_enter Tryd.func29, Tryd.ntmps29
        go_wp2_with fail
        refine (c1 _).mono ?_
        rintro e w1 ⟨rfl, b1⟩
        go_wp2_with fail
        refine (c2 _).mono ?_
        rintro e w2 ⟨rfl, b2⟩
        go_wp2_with fail
        go_ret
        exact ⟨by simp [ba_app], b1.trans (b2.mono b1.size)⟩

end Go.Proofs.YtiaknnhfbfoeiaaDoor
