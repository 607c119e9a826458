/- Contracts: the document's words (Word, Widths). -/
import Derived.Test.YtihagkngjnblaaaW4
import Derived.Deep.DeepCutAuto
namespace Go.Proofs.Ytihagkngjnblaaa
open Go.RowKit

theorem power_q (n : Int) (w : World) (h0 : 0 ≤ n) (h1 : n ≤ 63) :
    Calls Try.prog 30 #[.int .i64 n] w fun e w' => e = .returned (.int .u64 (pw n)) ∧ w' = w :=
  (power_any n w h0 h1).mono fun _ _ ⟨h, g⟩ => ⟨h, g.symm⟩

/-- the first n cells of a block are these numbers. -/
def HasInts (w : World) (b n : Nat) (ls : List Int) : Prop := ∀ i, i < n → w.cell? ⟨b, i, none⟩ = some (.int .i64 (ls.getD i 0))

theorem pack_lt {ls ws : List Int} (h : Wide ws) (k : Nat) (hk : k < ws.length) (ok : okTo ls ws k) :
    0 ≤ packTo ls ws k * pw (ws.getD k 0) ∧ packTo ls ws k * pw (ws.getD k 0) + (pw (ws.getD k 0) - 1) < 18446744073709551616 := by
  obtain ⟨b0, b1⟩ := packTo_bd h k (by omega) ok
  have hp := h.part k hk
  have s0 := sumTo_nonneg h k (by omega)
  have s1 := sumTo_le h (k + 1) hk
  simp only [sumTo] at s1
  have p0 := pw_pos (ws.getD k 0)
  have e : pw (sumTo ws k) * pw (ws.getD k 0) ≤ 18446744073709551616 := by
    rw [← pw_add _ _ s0 (by omega)]; exact pw_le_64 _ (by omega) s1
  have m : (packTo ls ws k + 1) * pw (ws.getD k 0) ≤ pw (sumTo ws k) * pw (ws.getD k 0) := Int.mul_le_mul_of_nonneg_right (by omega) (by omega)
  rw [Int.add_mul] at m
  refine ⟨Int.mul_nonneg b0 (by omega), by omega⟩

/-- a world that has drawn, and no more. -/
def Dr (w W : World) : Prop := ∃ m, W = w.drewN m
theorem Dr.refl (w : World) : Dr w w := ⟨0, rfl⟩
theorem Dr.next {w W : World} (h : Dr w W) (n : Nat) : Dr w (W.drewN n) := by
  obtain ⟨m, rfl⟩ := h
  exact ⟨m + n, World.drewN_drewN ..⟩
theorem Dr.cell {w W : World} (h : Dr w W) (a : Addr) : W.cell? a = w.cell? a := by
  obtain ⟨m, rfl⟩ := h; rfl
theorem Dr.below {B : Nat} {w W : World} (h : Dr w W) : Below B w W := by
  obtain ⟨m, rfl⟩ := h; exact below_drewN (Below.refl _ _) _

set_option maxHeartbeats 1000000 in
theorem rword_any (ls ws : List Int) (n bl bw cl cw : Nat) (w : World) (hn : n = ws.length) (hw : Wide ws) (hs : n ≤ 4) (hl : HasInts w bl n ls) (hc : HasInts w bw n ws)
    (ha : ∀ i, i < n → I64 (ls.getD i 0)) :
    Calls Try.prog 18 #[.slice (some ⟨bl, 0, none⟩) n cl, .slice (some ⟨bw, 0, none⟩) n cw] w
      fun e w' => e = .returned (.tuple #[.int .u64 (packW ls ws), .int .i64 (packE ls ws)]) ∧ Dr w w' := by
  have HL := Lib.hid hl
  have HC := Lib.hid hc
  have HA := Lib.hid ha
  have HN := Lib.hid hn
  clear hl hc ha hn
  go_enter Try.func18, Try.ntmps18
  go_wp2_with fail
  go_loopw [6, 7] (fun v i W => ∃ k : Nat, k ≤ n ∧ okTo ls ws k ∧ i = .int .i64 k ∧ v = .int .u64 (packTo ls ws k) ∧ Dr w W) (fun _ i _ => n - (intOf i).toNat)
  case atStart => exact ⟨0, Nat.zero_le _, fun i hi => by omega, rfl, rfl, Dr.refl w⟩
  case round =>
    obtain ⟨k, hk, hok, rfl, rfl, hdr⟩ := hrel
    have HD := Lib.hid hdr
    clear hdr
    by_cases hlt : k < n
    · have hkw : k < ws.length := by rw [← HN.out]; exact hlt
      obtain ⟨t0, t1⟩ := hw.part k hkw
      obtain ⟨x0, x1⟩ := HA.out k hlt
      have hlk : wr.cell? ⟨bl, k, none⟩ = some (.int .i64 (ls.getD k 0)) := by rw [HD.out.cell]; exact HL.out k hlt
      have hck : wr.cell? ⟨bw, k, none⟩ = some (.int .i64 (ws.getD k 0)) := by rw [HD.out.cell]; exact HC.out k hlt
      obtain ⟨b0, b1⟩ := packTo_bd hw k (by omega) hok
      obtain ⟨c0, c1⟩ := pack_lt hw k hkw hok
      have hnext : packTo ls ws (k + 1) = packTo ls ws k * pw (ws.getD k 0) + ls.getD k 0 := rfl
      have HX := Lib.hid hnext
      have Hok := Lib.hid hok
      clear hok hnext
      have hno : ¬ (0 ≤ ls.getD k 0 ∧ ls.getD k 0 < pw (ws.getD k 0)) → packW ls ws = 0 ∧ packE ls ws = 2 := fun g => ⟨packW_no (okTo_not hkw g), packE_no (okTo_not hkw g)⟩
      have HNo := Lib.hid hno
      clear hno hkw
      generalize hx : ls.getD k 0 = x at *
      generalize ht : ws.getD k 0 = t at *
      generalize hP : packTo ls ws k = P at *
      have Hx := Lib.hid hx
      have Ht := Lib.hid ht
      have HP := Lib.hid hP
      clear hx ht hP
      have p1 := pw_le_63 t (by omega) (by omega)
      have p0 := pw_pos t
      by_cases hneg : x < 0
      · have hd : decide (x < 0) = true := by simpa using hneg
        obtain ⟨E1, E2⟩ := HNo.out (by omega)
        have H1 := Lib.hid E1
        have H2 := Lib.hid E2
        clear E1 E2
        go_wp2_with fail
        go_quiet (fail)
        go_wp2
        go_ret2
        exact ⟨ret_two H1.out.symm H2.out.symm, HD.out.next _⟩
      · have hd : decide (x < 0) = false := by simpa using hneg
        by_cases hge : pw t ≤ x
        · obtain ⟨E1, E2⟩ := HNo.out (by omega)
          have H1 := Lib.hid E1
          have H2 := Lib.hid E2
          clear E1 E2
          go_wp2_with fail
          go_quiet ((go_at_call 30; exact Calls.quiet_of_same (power_q _ _ (by omega) (by omega))))
          go_wp2
          go_ret2
          exact ⟨ret_two H1.out.symm H2.out.symm, HD.out.next _⟩
        · go_wp2_with fail
          go_quiet ((go_at_call 30; exact Calls.quiet_of_same (power_q _ _ (by omega) (by omega))))
          go_upto_region 7 with fail
          have HD2 := Lib.hid (HD.out.next nq)
          have hlk2 : (wr.drewN nq).cell? ⟨bl, k, none⟩ = some (.int .i64 x) := hlk
          have hck2 : (wr.drewN nq).cell? ⟨bw, k, none⟩ = some (.int .i64 t) := hck
          clear hlk hck
          generalize wr.drewN nq = W2 at *
          go_quiet ((go_at_call 30; exact Calls.quiet_of_same (power_q _ _ (by omega) (by omega))))
          go_wp2
          go_roundw
          case rel =>
            refine ⟨k + 1, by omega, okTo_succ Hok.out ?_, by go_num, ?_, HD2.out.next _⟩
            · rw [Hx.out, Ht.out]; omega
            · rw [HX.out]
          case measure => simp [intOf]; omega
    · obtain rfl : n = k := by omega
      have e1 := packW_ok (ls := ls) (ws := ws) (by rw [← HN.out]; exact hok)
      have e2 := packE_ok (ls := ls) (ws := ws) (by rw [← HN.out]; exact hok)
      rw [← HN.out] at e1
      have H1 := Lib.hid e1
      have H2 := Lib.hid e2
      clear e1 e2
      go_wp2
      go_ret2
      exact ⟨ret_two H1.out.symm H2.out.symm, HD.out⟩

end Go.Proofs.Ytihagkngjnblaaa
