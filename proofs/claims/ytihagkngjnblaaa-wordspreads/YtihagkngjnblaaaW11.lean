/- The law: what stands in any word is as the document says; it is the word of that. -/
import Derived.Test.YtihagkngjnblaaaW8
import Derived.Test.YtihagkngjnblaaaW10
namespace Go.Proofs.Ytihagkngjnblaaa
open Go.RowKit

/-- what the law lays: five structs, five lists, the list of these. -/
structure Laid (v : Int) (n : Nat) (w : World) : Prop where
  s00 : w.cell? ⟨n, 0, none⟩ = some (.int .i64 (getW v 32 32))
  s01 : w.cell? ⟨n, 1, none⟩ = some (.int .i64 (getW v 2 30))
  s02 : w.cell? ⟨n, 2, none⟩ = some (.int .i64 (getW v 0 2))
  s10 : w.cell? ⟨n + 1, 0, none⟩ = some (.int .i64 (getW v 32 32))
  s11 : w.cell? ⟨n + 1, 1, none⟩ = some (.int .i64 (getW v 16 16))
  s12 : w.cell? ⟨n + 1, 2, none⟩ = some (.int .i64 (getW v 0 16))
  s20 : w.cell? ⟨n + 1 + 1, 0, none⟩ = some (.int .i64 (getW v 32 32))
  s21 : w.cell? ⟨n + 1 + 1, 1, none⟩ = some (.int .i64 (getW v 16 16))
  s22 : w.cell? ⟨n + 1 + 1, 2, none⟩ = some (.int .i64 (getW v 0 16))
  s30 : w.cell? ⟨n + 1 + 1 + 1, 0, none⟩ = some (.int .i64 (getW v 32 32))
  s31 : w.cell? ⟨n + 1 + 1 + 1, 1, none⟩ = some (.int .i64 (getW v 0 32 - 1))
  s40 : w.cell? ⟨n + 1 + 1 + 1 + 1, 0, none⟩ = some (.int .i64 (getW v 38 26))
  s41 : w.cell? ⟨n + 1 + 1 + 1 + 1, 1, none⟩ = some (.int .i64 (getW v 33 5))
  s42 : w.cell? ⟨n + 1 + 1 + 1 + 1, 2, none⟩ = some (.int .i64 (getW v 30 3))
  s43 : w.cell? ⟨n + 1 + 1 + 1 + 1, 3, none⟩ = some (.int .i64 (getW v 0 30))
  l00 : w.cell? ⟨n + 1 + 1 + 1 + 1 + 1, 0, none⟩ = some (.int .i64 (getW v 32 32))
  l01 : w.cell? ⟨n + 1 + 1 + 1 + 1 + 1, 1, none⟩ = some (.int .i64 (getW v 2 30))
  l02 : w.cell? ⟨n + 1 + 1 + 1 + 1 + 1, 2, none⟩ = some (.int .i64 (getW v 0 2))
  l10 : w.cell? ⟨n + 1 + 1 + 1 + 1 + 1 + 1, 0, none⟩ = some (.int .i64 (getW v 32 32))
  l11 : w.cell? ⟨n + 1 + 1 + 1 + 1 + 1 + 1, 1, none⟩ = some (.int .i64 (getW v 16 16))
  l12 : w.cell? ⟨n + 1 + 1 + 1 + 1 + 1 + 1, 2, none⟩ = some (.int .i64 (getW v 0 16))
  l20 : w.cell? ⟨n + 1 + 1 + 1 + 1 + 1 + 1 + 1, 0, none⟩ = some (.int .i64 (getW v 32 32))
  l21 : w.cell? ⟨n + 1 + 1 + 1 + 1 + 1 + 1 + 1, 1, none⟩ = some (.int .i64 (getW v 16 16))
  l22 : w.cell? ⟨n + 1 + 1 + 1 + 1 + 1 + 1 + 1, 2, none⟩ = some (.int .i64 (getW v 0 16))
  l30 : w.cell? ⟨n + 1 + 1 + 1 + 1 + 1 + 1 + 1 + 1, 0, none⟩ = some (.int .i64 (getW v 32 32))
  l31 : w.cell? ⟨n + 1 + 1 + 1 + 1 + 1 + 1 + 1 + 1, 1, none⟩ = some (.int .i64 (getW v 0 32))
  l40 : w.cell? ⟨n + 1 + 1 + 1 + 1 + 1 + 1 + 1 + 1 + 1, 0, none⟩ = some (.int .i64 (getW v 38 26))
  l41 : w.cell? ⟨n + 1 + 1 + 1 + 1 + 1 + 1 + 1 + 1 + 1, 1, none⟩ = some (.int .i64 (getW v 33 5))
  l42 : w.cell? ⟨n + 1 + 1 + 1 + 1 + 1 + 1 + 1 + 1 + 1, 2, none⟩ = some (.int .i64 (getW v 30 3))
  l43 : w.cell? ⟨n + 1 + 1 + 1 + 1 + 1 + 1 + 1 + 1 + 1, 3, none⟩ = some (.int .i64 (getW v 0 30))
  o0 : w.cell? ⟨n + 1 + 1 + 1 + 1 + 1 + 1 + 1 + 1 + 1 + 1, 0, none⟩ = some (.slice (some ⟨n + 1 + 1 + 1 + 1 + 1, 0, none⟩) 3 3)
  o1 : w.cell? ⟨n + 1 + 1 + 1 + 1 + 1 + 1 + 1 + 1 + 1 + 1, 1, none⟩ = some (.slice (some ⟨n + 1 + 1 + 1 + 1 + 1 + 1, 0, none⟩) 3 3)
  o2 : w.cell? ⟨n + 1 + 1 + 1 + 1 + 1 + 1 + 1 + 1 + 1 + 1, 2, none⟩ = some (.slice (some ⟨n + 1 + 1 + 1 + 1 + 1 + 1 + 1, 0, none⟩) 3 3)
  o3 : w.cell? ⟨n + 1 + 1 + 1 + 1 + 1 + 1 + 1 + 1 + 1 + 1, 3, none⟩ = some (.slice (some ⟨n + 1 + 1 + 1 + 1 + 1 + 1 + 1 + 1, 0, none⟩) 2 2)
  o4 : w.cell? ⟨n + 1 + 1 + 1 + 1 + 1 + 1 + 1 + 1 + 1 + 1, 4, none⟩ = some (.slice (some ⟨n + 1 + 1 + 1 + 1 + 1 + 1 + 1 + 1 + 1, 0, none⟩) 4 4)

theorem Laid.of {v : Int} {n : Nat} {w w' : World} (f : Laid v n w) (g : Below (n + 11) w w') : Laid v n w' := by
  obtain ⟨s00, s01, s02, s10, s11, s12, s20, s21, s22, s30, s31, s40, s41, s42, s43, l00, l01, l02, l10, l11, l12, l20, l21, l22, l30, l31, l40, l41, l42, l43, o0, o1, o2, o3, o4⟩ := f
  constructor
  all_goals rw [g.cell (by dsimp only; omega)]
  all_goals assumption

/-- where the law stands within its loop. -/
def At (v : Int) (n : Nat) (w W : World) : Prop := Laid v n W ∧ Below w.heap.size w W ∧ n + 11 ≤ W.heap.size ∧ w.heap.size ≤ n

theorem At.next {v : Int} {n : Nat} {w W W' : World} (h : At v n w W) (g : Below W.heap.size W W') : At v n w W' :=
  ⟨h.1.of (g.mono h.2.2.1), h.2.1.trans (g.mono h.2.1.size), Nat.le_trans h.2.2.1 g.size, h.2.2.2⟩

theorem whole_state (v : Int) (hv : U64 v) : packW [getW v 32 32, getW v 2 30, getW v 0 2, 0] stateWs = v ∧ packE [getW v 32 32, getW v 2 30, getW v 0 2, 0] stateWs = 0 := by
  obtain ⟨hv0, hv1⟩ := hv
  obtain ⟨g0, g1⟩ := getW_bd v 32 32 4294967296 (by simp [pw])
  have e0 := get_num v 32 32 4294967296 4294967296 (by decide) (by simp [pw]) (by simp [pw])
  have p0 : pw 32 = 4294967296 := by simp [pw]
  obtain ⟨g2, g3⟩ := getW_bd v 2 30 1073741824 (by simp [pw])
  have e1 := get_num v 2 30 4 1073741824 (by decide) (by simp [pw]) (by simp [pw])
  have p1 : pw 30 = 1073741824 := by simp [pw]
  obtain ⟨g4, g5⟩ := getW_bd v 0 2 4 (by simp [pw])
  have e2 := get_num v 0 2 1 4 (by decide) (by simp [pw]) (by simp [pw])
  have p2 : pw 2 = 4 := by simp [pw]
  have ok : okTo [getW v 32 32, getW v 2 30, getW v 0 2, 0] stateWs stateWs.length := by
    intro i hi
    rcases i with _ | _ | _ | i
    · show 0 ≤ getW v 32 32 ∧ getW v 32 32 < pw 32; omega
    · show 0 ≤ getW v 2 30 ∧ getW v 2 30 < pw 30; omega
    · show 0 ≤ getW v 0 2 ∧ getW v 0 2 < pw 2; omega
    · simp [stateWs] at hi; omega
  rw [packW_ok ok, packE_ok ok]
  refine ⟨?_, rfl⟩
  show ((0 * pw 32 + getW v 32 32) * pw 30 + getW v 2 30) * pw 2 + getW v 0 2 = v
  rw [p0, p1, p2]
  omega

theorem whole_home (v : Int) (hv : U64 v) : packW [getW v 32 32, getW v 16 16, getW v 0 16, 0] homeWs = v ∧ packE [getW v 32 32, getW v 16 16, getW v 0 16, 0] homeWs = 0 := by
  obtain ⟨hv0, hv1⟩ := hv
  obtain ⟨g0, g1⟩ := getW_bd v 32 32 4294967296 (by simp [pw])
  have e0 := get_num v 32 32 4294967296 4294967296 (by decide) (by simp [pw]) (by simp [pw])
  have p0 : pw 32 = 4294967296 := by simp [pw]
  obtain ⟨g2, g3⟩ := getW_bd v 16 16 65536 (by simp [pw])
  have e1 := get_num v 16 16 65536 65536 (by decide) (by simp [pw]) (by simp [pw])
  have p1 : pw 16 = 65536 := by simp [pw]
  obtain ⟨g4, g5⟩ := getW_bd v 0 16 65536 (by simp [pw])
  have e2 := get_num v 0 16 1 65536 (by decide) (by simp [pw]) (by simp [pw])
  have p2 : pw 16 = 65536 := by simp [pw]
  have ok : okTo [getW v 32 32, getW v 16 16, getW v 0 16, 0] homeWs homeWs.length := by
    intro i hi
    rcases i with _ | _ | _ | i
    · show 0 ≤ getW v 32 32 ∧ getW v 32 32 < pw 32; omega
    · show 0 ≤ getW v 16 16 ∧ getW v 16 16 < pw 16; omega
    · show 0 ≤ getW v 0 16 ∧ getW v 0 16 < pw 16; omega
    · simp [homeWs] at hi; omega
  rw [packW_ok ok, packE_ok ok]
  refine ⟨?_, rfl⟩
  show ((0 * pw 32 + getW v 32 32) * pw 16 + getW v 16 16) * pw 16 + getW v 0 16 = v
  rw [p0, p1]
  omega

theorem whole_head (v : Int) (hv : U64 v) : packW [getW v 32 32, getW v 0 32, 0, 0] headWs = v ∧ packE [getW v 32 32, getW v 0 32, 0, 0] headWs = 0 := by
  obtain ⟨hv0, hv1⟩ := hv
  obtain ⟨g0, g1⟩ := getW_bd v 32 32 4294967296 (by simp [pw])
  have e0 := get_num v 32 32 4294967296 4294967296 (by decide) (by simp [pw]) (by simp [pw])
  have p0 : pw 32 = 4294967296 := by simp [pw]
  obtain ⟨g2, g3⟩ := getW_bd v 0 32 4294967296 (by simp [pw])
  have e1 := get_num v 0 32 1 4294967296 (by decide) (by simp [pw]) (by simp [pw])
  have p1 : pw 32 = 4294967296 := by simp [pw]
  have ok : okTo [getW v 32 32, getW v 0 32, 0, 0] headWs headWs.length := by
    intro i hi
    rcases i with _ | _ | i
    · show 0 ≤ getW v 32 32 ∧ getW v 32 32 < pw 32; omega
    · show 0 ≤ getW v 0 32 ∧ getW v 0 32 < pw 32; omega
    · simp [headWs] at hi; omega
  rw [packW_ok ok, packE_ok ok]
  refine ⟨?_, rfl⟩
  show (0 * pw 32 + getW v 32 32) * pw 32 + getW v 0 32 = v
  rw [p0]
  omega

theorem whole_conn (v : Int) (hv : U64 v) : packW [getW v 38 26, getW v 33 5, getW v 30 3, getW v 0 30] connWs = v ∧ packE [getW v 38 26, getW v 33 5, getW v 30 3, getW v 0 30] connWs = 0 := by
  obtain ⟨hv0, hv1⟩ := hv
  obtain ⟨g0, g1⟩ := getW_bd v 38 26 67108864 (by simp [pw])
  have e0 := get_num v 38 26 274877906944 67108864 (by decide) (by simp [pw]) (by simp [pw])
  have p0 : pw 26 = 67108864 := by simp [pw]
  obtain ⟨g2, g3⟩ := getW_bd v 33 5 32 (by simp [pw])
  have e1 := get_num v 33 5 8589934592 32 (by decide) (by simp [pw]) (by simp [pw])
  have p1 : pw 5 = 32 := by simp [pw]
  obtain ⟨g4, g5⟩ := getW_bd v 30 3 8 (by simp [pw])
  have e2 := get_num v 30 3 1073741824 8 (by decide) (by simp [pw]) (by simp [pw])
  have p2 : pw 3 = 8 := by simp [pw]
  obtain ⟨g6, g7⟩ := getW_bd v 0 30 1073741824 (by simp [pw])
  have e3 := get_num v 0 30 1 1073741824 (by decide) (by simp [pw]) (by simp [pw])
  have p3 : pw 30 = 1073741824 := by simp [pw]
  have ok : okTo [getW v 38 26, getW v 33 5, getW v 30 3, getW v 0 30] connWs connWs.length := by
    intro i hi
    rcases i with _ | _ | _ | _ | i
    · show 0 ≤ getW v 38 26 ∧ getW v 38 26 < pw 26; omega
    · show 0 ≤ getW v 33 5 ∧ getW v 33 5 < pw 5; omega
    · show 0 ≤ getW v 30 3 ∧ getW v 30 3 < pw 3; omega
    · show 0 ≤ getW v 0 30 ∧ getW v 0 30 < pw 30; omega
    · simp [connWs] at hi; omega
  rw [packW_ok ok, packE_ok ok]
  refine ⟨?_, rfl⟩
  show (((0 * pw 26 + getW v 38 26) * pw 5 + getW v 33 5) * pw 3 + getW v 30 3) * pw 30 + getW v 0 30 = v
  rw [p0, p1, p2, p3]
  omega

set_option maxRecDepth 100000 in
set_option maxHeartbeats 2000000 in
theorem spreads_law (v : Int) (w : World) (hv : U64 v) :
    Calls Try.prog 5 #[.int .u64 v] w fun e w' => e = .returned (.bool true) ∧ Below w.heap.size w w' := by
  have b32x32 := getW_bd v 32 32 4294967296 (by simp [pw])
  have b2x30 := getW_bd v 2 30 1073741824 (by simp [pw])
  have b0x2 := getW_bd v 0 2 4 (by simp [pw])
  have b16x16 := getW_bd v 16 16 65536 (by simp [pw])
  have b0x16 := getW_bd v 0 16 65536 (by simp [pw])
  have b0x32 := getW_bd v 0 32 4294967296 (by simp [pw])
  have b38x26 := getW_bd v 38 26 67108864 (by simp [pw])
  have b33x5 := getW_bd v 33 5 32 (by simp [pw])
  have b30x3 := getW_bd v 30 3 8 (by simp [pw])
  have b0x30 := getW_bd v 0 30 1073741824 (by simp [pw])
  go_enter Try.func5, Try.ntmps5
  go_wp2_with fail
  refine (speaks_any _).mono ?_
  rintro e w1 ⟨rfl, hbel⟩
  have HB1 := Lib.hid hbel
  clear hbel
  go_wp2_with fail
  refine (state_of _ _ hv).mono ?_
  rintro e w2 ⟨rfl, hbel⟩
  have HB2 := Lib.hid (HB1.out.trans (hbel.mono HB1.out.size))
  clear hbel HB1
  go_wp2_with fail
  refine (home_of _ _ hv).mono ?_
  rintro e w3 ⟨rfl, hbel⟩
  have HB3 := Lib.hid (HB2.out.trans (hbel.mono HB2.out.size))
  clear hbel HB2
  go_wp2_with fail
  refine (key_of _ _ hv).mono ?_
  rintro e w4 ⟨rfl, hbel⟩
  have HB4 := Lib.hid (HB3.out.trans (hbel.mono HB3.out.size))
  clear hbel HB3
  go_wp2_with fail
  refine (head_of _ _ hv).mono ?_
  rintro e w5 ⟨rfl, hbel⟩
  have HB5 := Lib.hid (HB4.out.trans (hbel.mono HB4.out.size))
  clear hbel HB4
  go_wp2_with fail
  refine (conn_of _ _ hv).mono ?_
  rintro e w6 ⟨rfl, hbel⟩
  have HB6 := Lib.hid (HB5.out.trans (hbel.mono HB5.out.size))
  clear hbel HB5
  go_wp2_with fail
  have hsz := HB6.out.size
  go_loopw [74] (fun i W => ∃ k : Nat, k ≤ 5 ∧ i = .int .i64 k ∧ At v w6.heap.size w W) (fun i _ => 5 - (intOf i).toNat)
  case atStart =>
    refine ⟨0, by omega, rfl, ?_, ?_, ?_, hsz⟩
    · constructor
      all_goals simp [go_sem]
    · repeat' (with_reducible first | exact HB6.out | refine below_drewN ?_ _ | refine Below.setCell ?_ ?_ _ | refine Below.alloc ?_ ?_ _)
      all_goals (first | omega | (simp; omega))
    · simp
  case round =>
    clear HB6
    generalize w6.heap.size = N at *
    obtain ⟨k, hk, rfl, hat⟩ := hrel
    have HA := Lib.hid hat
    clear hat
    have hN : N + 11 ≤ wr.heap.size := HA.out.2.2.1
    rcases (by omega : k = 0 ∨ k = 1 ∨ k = 2 ∨ k = 3 ∨ k = 4 ∨ k = 5) with rfl | rfl | rfl | rfl | rfl | rfl
    · have o := HA.out.1.o0
      have l0 := HA.out.1.l00
      have l1 := HA.out.1.l01
      have l2 := HA.out.1.l02
      go_wp2_with fail
      refine (widths_state _).mono ?_
      rintro e w7 ⟨rfl, rfl⟩
      go_wp2_with fail
      refine (numbers_state _ _ _ hv (by simp) (by simp) (by simp) (by simp)).mono ?_
      rintro e w8 ⟨rfl, hw8⟩
      have HA8 := Lib.hid (HA.out.next (show Below wr.heap.size wr w8 by rw [← hw8]; exact ((Below.refl _ _).alloc (Nat.le_refl _) _).alloc (by simp) _))
      clear o l0 l1 l2
      have l0 := HA8.out.1.l00
      have l1 := HA8.out.1.l01
      have l2 := HA8.out.1.l02
      have n0 : w8.cell? ⟨wr.heap.size + 1, 0, none⟩ = some (.int .i64 (getW v 32 32)) := by rw [← hw8]; simp
      have n1 : w8.cell? ⟨wr.heap.size + 1, 1, none⟩ = some (.int .i64 (getW v 2 30)) := by rw [← hw8]; simp
      have n2 : w8.cell? ⟨wr.heap.size + 1, 2, none⟩ = some (.int .i64 (getW v 0 2)) := by rw [← hw8]; simp
      clear hw8
      go_wp2_with fail
      refine wp_loop_rounds 4 ?_
      rw [rounds_succ]
      go_wp2_with fail
      go_quiet (fail)
      go_wp2_with fail
      rw [rounds_succ]
      go_wp2_with fail
      go_quiet (fail)
      go_wp2_with fail
      rw [rounds_succ]
      go_wp2_with fail
      go_quiet (fail)
      go_wp2_with fail
      rw [rounds_succ]
      go_wp2
      go_roundw
      case rel =>
        refine ⟨1, by omega, rfl, HA8.out.next ?_⟩
        repeat' (with_reducible first | exact Below.refl _ _ | refine below_drewN ?_ _ | refine Below.setCell ?_ ?_ _ | refine Below.alloc ?_ ?_ _)
      case measure => simp [intOf]
    · have o := HA.out.1.o1
      have l0 := HA.out.1.l10
      have l1 := HA.out.1.l11
      have l2 := HA.out.1.l12
      go_wp2_with fail
      refine (widths_home _ (by omega) _).mono ?_
      rintro e w7 ⟨rfl, rfl⟩
      go_wp2_with fail
      refine (numbers_home _ _ _ hv (by simp) (by simp) (by simp) (by simp)).mono ?_
      rintro e w8 ⟨rfl, hw8⟩
      have HA8 := Lib.hid (HA.out.next (show Below wr.heap.size wr w8 by rw [← hw8]; exact ((Below.refl _ _).alloc (Nat.le_refl _) _).alloc (by simp) _))
      clear o l0 l1 l2
      have l0 := HA8.out.1.l10
      have l1 := HA8.out.1.l11
      have l2 := HA8.out.1.l12
      have n0 : w8.cell? ⟨wr.heap.size + 1, 0, none⟩ = some (.int .i64 (getW v 32 32)) := by rw [← hw8]; simp
      have n1 : w8.cell? ⟨wr.heap.size + 1, 1, none⟩ = some (.int .i64 (getW v 16 16)) := by rw [← hw8]; simp
      have n2 : w8.cell? ⟨wr.heap.size + 1, 2, none⟩ = some (.int .i64 (getW v 0 16)) := by rw [← hw8]; simp
      clear hw8
      go_wp2_with fail
      refine wp_loop_rounds 4 ?_
      rw [rounds_succ]
      go_wp2_with fail
      go_quiet (fail)
      go_wp2_with fail
      rw [rounds_succ]
      go_wp2_with fail
      go_quiet (fail)
      go_wp2_with fail
      rw [rounds_succ]
      go_wp2_with fail
      go_quiet (fail)
      go_wp2_with fail
      rw [rounds_succ]
      go_wp2
      go_roundw
      case rel =>
        refine ⟨2, by omega, rfl, HA8.out.next ?_⟩
        repeat' (with_reducible first | exact Below.refl _ _ | refine below_drewN ?_ _ | refine Below.setCell ?_ ?_ _ | refine Below.alloc ?_ ?_ _)
      case measure => simp [intOf]
    · have o := HA.out.1.o2
      have l0 := HA.out.1.l20
      have l1 := HA.out.1.l21
      have l2 := HA.out.1.l22
      go_wp2_with fail
      refine (widths_home _ (by omega) _).mono ?_
      rintro e w7 ⟨rfl, rfl⟩
      go_wp2_with fail
      refine (numbers_home _ _ _ hv (by simp) (by simp) (by simp) (by simp)).mono ?_
      rintro e w8 ⟨rfl, hw8⟩
      have HA8 := Lib.hid (HA.out.next (show Below wr.heap.size wr w8 by rw [← hw8]; exact ((Below.refl _ _).alloc (Nat.le_refl _) _).alloc (by simp) _))
      clear o l0 l1 l2
      have l0 := HA8.out.1.l20
      have l1 := HA8.out.1.l21
      have l2 := HA8.out.1.l22
      have n0 : w8.cell? ⟨wr.heap.size + 1, 0, none⟩ = some (.int .i64 (getW v 32 32)) := by rw [← hw8]; simp
      have n1 : w8.cell? ⟨wr.heap.size + 1, 1, none⟩ = some (.int .i64 (getW v 16 16)) := by rw [← hw8]; simp
      have n2 : w8.cell? ⟨wr.heap.size + 1, 2, none⟩ = some (.int .i64 (getW v 0 16)) := by rw [← hw8]; simp
      clear hw8
      go_wp2_with fail
      refine wp_loop_rounds 4 ?_
      rw [rounds_succ]
      go_wp2_with fail
      go_quiet (fail)
      go_wp2_with fail
      rw [rounds_succ]
      go_wp2_with fail
      go_quiet (fail)
      go_wp2_with fail
      rw [rounds_succ]
      go_wp2_with fail
      go_quiet (fail)
      go_wp2_with fail
      rw [rounds_succ]
      go_wp2
      go_roundw
      case rel =>
        refine ⟨3, by omega, rfl, HA8.out.next ?_⟩
        repeat' (with_reducible first | exact Below.refl _ _ | refine below_drewN ?_ _ | refine Below.setCell ?_ ?_ _ | refine Below.alloc ?_ ?_ _)
      case measure => simp [intOf]
    · have o := HA.out.1.o3
      have l0 := HA.out.1.l30
      have l1 := HA.out.1.l31
      go_wp2_with fail
      refine (widths_head _).mono ?_
      rintro e w7 ⟨rfl, rfl⟩
      go_wp2_with fail
      refine (numbers_head _ _ _ hv (by simp) (by simp) (by simp)).mono ?_
      rintro e w8 ⟨rfl, hw8⟩
      have HA8 := Lib.hid (HA.out.next (show Below wr.heap.size wr w8 by rw [← hw8]; exact ((Below.refl _ _).alloc (Nat.le_refl _) _).alloc (by simp) _))
      clear o l0 l1
      have l0 := HA8.out.1.l30
      have l1 := HA8.out.1.l31
      have n0 : w8.cell? ⟨wr.heap.size + 1, 0, none⟩ = some (.int .i64 (getW v 32 32)) := by rw [← hw8]; simp
      have n1 : w8.cell? ⟨wr.heap.size + 1, 1, none⟩ = some (.int .i64 (getW v 0 32)) := by rw [← hw8]; simp
      clear hw8
      go_wp2_with fail
      refine wp_loop_rounds 3 ?_
      rw [rounds_succ]
      go_wp2_with fail
      go_quiet (fail)
      go_wp2_with fail
      rw [rounds_succ]
      go_wp2_with fail
      go_quiet (fail)
      go_wp2_with fail
      rw [rounds_succ]
      go_wp2
      go_roundw
      case rel =>
        refine ⟨4, by omega, rfl, HA8.out.next ?_⟩
        repeat' (with_reducible first | exact Below.refl _ _ | refine below_drewN ?_ _ | refine Below.setCell ?_ ?_ _ | refine Below.alloc ?_ ?_ _)
      case measure => simp [intOf]
    · have o := HA.out.1.o4
      have l0 := HA.out.1.l40
      have l1 := HA.out.1.l41
      have l2 := HA.out.1.l42
      have l3 := HA.out.1.l43
      go_wp2_with fail
      refine (widths_conn _).mono ?_
      rintro e w7 ⟨rfl, rfl⟩
      go_wp2_with fail
      refine (numbers_conn _ _ _ hv (by simp) (by simp) (by simp) (by simp) (by simp)).mono ?_
      rintro e w8 ⟨rfl, hw8⟩
      have HA8 := Lib.hid (HA.out.next (show Below wr.heap.size wr w8 by rw [← hw8]; exact ((Below.refl _ _).alloc (Nat.le_refl _) _).alloc (by simp) _))
      clear o l0 l1 l2 l3
      have l0 := HA8.out.1.l40
      have l1 := HA8.out.1.l41
      have l2 := HA8.out.1.l42
      have l3 := HA8.out.1.l43
      have n0 : w8.cell? ⟨wr.heap.size + 1, 0, none⟩ = some (.int .i64 (getW v 38 26)) := by rw [← hw8]; simp
      have n1 : w8.cell? ⟨wr.heap.size + 1, 1, none⟩ = some (.int .i64 (getW v 33 5)) := by rw [← hw8]; simp
      have n2 : w8.cell? ⟨wr.heap.size + 1, 2, none⟩ = some (.int .i64 (getW v 30 3)) := by rw [← hw8]; simp
      have n3 : w8.cell? ⟨wr.heap.size + 1, 3, none⟩ = some (.int .i64 (getW v 0 30)) := by rw [← hw8]; simp
      clear hw8
      go_wp2_with fail
      refine wp_loop_rounds 5 ?_
      rw [rounds_succ]
      go_wp2_with fail
      go_quiet (fail)
      go_wp2_with fail
      rw [rounds_succ]
      go_wp2_with fail
      go_quiet (fail)
      go_wp2_with fail
      rw [rounds_succ]
      go_wp2_with fail
      go_quiet (fail)
      go_wp2_with fail
      rw [rounds_succ]
      go_wp2_with fail
      go_quiet (fail)
      go_wp2_with fail
      rw [rounds_succ]
      go_wp2
      go_roundw
      case rel =>
        refine ⟨5, by omega, rfl, HA8.out.next ?_⟩
        repeat' (with_reducible first | exact Below.refl _ _ | refine below_drewN ?_ _ | refine Below.setCell ?_ ?_ _ | refine Below.alloc ?_ ?_ _)
      case measure => simp [intOf]
    · have hwr : wrap64 (getW v 0 32 - 1 + 1) = getW v 0 32 := by unfold wrap64; omega
      have s00 := HA.out.1.s00
      have s01 := HA.out.1.s01
      have s02 := HA.out.1.s02
      have s10 := HA.out.1.s10
      have s11 := HA.out.1.s11
      have s12 := HA.out.1.s12
      have s20 := HA.out.1.s20
      have s21 := HA.out.1.s21
      have s22 := HA.out.1.s22
      have s30 := HA.out.1.s30
      have s31 := HA.out.1.s31
      have s40 := HA.out.1.s40
      have s41 := HA.out.1.s41
      have s42 := HA.out.1.s42
      have s43 := HA.out.1.s43
      clear hN
      go_wp2_with fail
      refine (state_word _ _ _ _ ⟨by omega, by omega⟩ ⟨by omega, by omega⟩ ⟨by omega, by omega⟩).mono ?_
      rintro e x0 ⟨rfl, hbel⟩
      rw [(whole_state v hv).1, (whole_state v hv).2]
      have HA0 := Lib.hid (HA.out.next hbel)
      clear hbel HA s00 s01 s02 s10 s11 s12 s20 s21 s22 s30 s31 s40 s41 s42 s43
      have s00 := HA0.out.1.s00
      have s01 := HA0.out.1.s01
      have s02 := HA0.out.1.s02
      have s10 := HA0.out.1.s10
      have s11 := HA0.out.1.s11
      have s12 := HA0.out.1.s12
      have s20 := HA0.out.1.s20
      have s21 := HA0.out.1.s21
      have s22 := HA0.out.1.s22
      have s30 := HA0.out.1.s30
      have s31 := HA0.out.1.s31
      have s40 := HA0.out.1.s40
      have s41 := HA0.out.1.s41
      have s42 := HA0.out.1.s42
      have s43 := HA0.out.1.s43
      go_wp2_with fail
      refine (home_word _ _ _ _ ⟨by omega, by omega⟩ ⟨by omega, by omega⟩ ⟨by omega, by omega⟩).mono ?_
      rintro e x1 ⟨rfl, hbel⟩
      rw [(whole_home v hv).1, (whole_home v hv).2]
      have HA1 := Lib.hid (HA0.out.next hbel)
      clear hbel HA0 s00 s01 s02 s10 s11 s12 s20 s21 s22 s30 s31 s40 s41 s42 s43
      have s00 := HA1.out.1.s00
      have s01 := HA1.out.1.s01
      have s02 := HA1.out.1.s02
      have s10 := HA1.out.1.s10
      have s11 := HA1.out.1.s11
      have s12 := HA1.out.1.s12
      have s20 := HA1.out.1.s20
      have s21 := HA1.out.1.s21
      have s22 := HA1.out.1.s22
      have s30 := HA1.out.1.s30
      have s31 := HA1.out.1.s31
      have s40 := HA1.out.1.s40
      have s41 := HA1.out.1.s41
      have s42 := HA1.out.1.s42
      have s43 := HA1.out.1.s43
      go_wp2_with fail
      refine (key_word _ _ _ _ ⟨by omega, by omega⟩ ⟨by omega, by omega⟩ ⟨by omega, by omega⟩).mono ?_
      rintro e x2 ⟨rfl, hbel⟩
      rw [(whole_home v hv).1, (whole_home v hv).2]
      have HA2 := Lib.hid (HA1.out.next hbel)
      clear hbel HA1 s00 s01 s02 s10 s11 s12 s20 s21 s22 s30 s31 s40 s41 s42 s43
      have s00 := HA2.out.1.s00
      have s01 := HA2.out.1.s01
      have s02 := HA2.out.1.s02
      have s10 := HA2.out.1.s10
      have s11 := HA2.out.1.s11
      have s12 := HA2.out.1.s12
      have s20 := HA2.out.1.s20
      have s21 := HA2.out.1.s21
      have s22 := HA2.out.1.s22
      have s30 := HA2.out.1.s30
      have s31 := HA2.out.1.s31
      have s40 := HA2.out.1.s40
      have s41 := HA2.out.1.s41
      have s42 := HA2.out.1.s42
      have s43 := HA2.out.1.s43
      go_wp2_with fail
      refine (head_word _ _ _ ⟨by omega, by omega⟩).mono ?_
      rintro e x3 ⟨rfl, hbel⟩
      rw [hwr]
      rw [(whole_head v hv).1, (whole_head v hv).2]
      have HA3 := Lib.hid (HA2.out.next hbel)
      clear hbel HA2 s00 s01 s02 s10 s11 s12 s20 s21 s22 s30 s31 s40 s41 s42 s43
      have s00 := HA3.out.1.s00
      have s01 := HA3.out.1.s01
      have s02 := HA3.out.1.s02
      have s10 := HA3.out.1.s10
      have s11 := HA3.out.1.s11
      have s12 := HA3.out.1.s12
      have s20 := HA3.out.1.s20
      have s21 := HA3.out.1.s21
      have s22 := HA3.out.1.s22
      have s30 := HA3.out.1.s30
      have s31 := HA3.out.1.s31
      have s40 := HA3.out.1.s40
      have s41 := HA3.out.1.s41
      have s42 := HA3.out.1.s42
      have s43 := HA3.out.1.s43
      go_wp2_with fail
      refine (conn_word _ _ _ _ _ ⟨by omega, by omega⟩ ⟨by omega, by omega⟩ ⟨by omega, by omega⟩ ⟨by omega, by omega⟩).mono ?_
      rintro e x4 ⟨rfl, hbel⟩
      rw [(whole_conn v hv).1, (whole_conn v hv).2]
      have HA4 := Lib.hid (HA3.out.next hbel)
      clear hbel HA3 s00 s01 s02 s10 s11 s12 s20 s21 s22 s30 s31 s40 s41 s42 s43
      have s00 := HA4.out.1.s00
      have s01 := HA4.out.1.s01
      have s02 := HA4.out.1.s02
      have s10 := HA4.out.1.s10
      have s11 := HA4.out.1.s11
      have s12 := HA4.out.1.s12
      have s20 := HA4.out.1.s20
      have s21 := HA4.out.1.s21
      have s22 := HA4.out.1.s22
      have s30 := HA4.out.1.s30
      have s31 := HA4.out.1.s31
      have s40 := HA4.out.1.s40
      have s41 := HA4.out.1.s41
      have s42 := HA4.out.1.s42
      have s43 := HA4.out.1.s43
      go_wp2
      go_ret
      exact ⟨rfl, HA4.out.2.1⟩

end Go.Proofs.Ytihagkngjnblaaa
