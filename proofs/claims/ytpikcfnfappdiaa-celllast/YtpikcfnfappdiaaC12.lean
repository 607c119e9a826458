/- The law: each cell has what was written to it last. -/
import Derived.Test.YtpikcfnfappdiaaC11
namespace Go.Proofs.Ytpikcfnfappdiaa
open Go.RowKit

/-- in the midst of the writes: the arena's cells, and the array's, have the same numbers. -/
def LastAt (w : World) (C L m : Nat) (W : World) : Prop := ∃ (ls : List Int) (k : Int), ls.length = 20 ∧ k ≤ 30 * m ∧ Arena W (C + 1) C ls k ∧ Lies W L 51 (nums ls) ∧ Below w.heap.size w W

/-- within a round: the arena, the array, the access in its box. -/
structure In (w : World) (C L X : Nat) (ls lt : List Int) (k kd ix od vl : Int) (W : World) : Prop where
  ar : Arena W (C + 1) C ls k
  la : Lies W L 51 (nums lt)
  bx : Lies W X 35 #[.int .i64 kd, .int .i64 ix, .int .u64 od, .int .u64 vl]
  be : Below w.heap.size w W

section
variable {w : World} {C L X : Nat} {ls lt : List Int} {k kd ix od vl : Int} {W : World}
theorem In.c1 (h : In w C L X ls lt k kd ix od vl W) : W.cell? ⟨X, 1, none⟩ = some (.int .i64 ix) := h.bx.cell 1
theorem In.c3 (h : In w C L X ls lt k kd ix od vl W) : W.cell? ⟨X, 3, none⟩ = some (.int .u64 vl) := h.bx.cell 3
theorem In.neL (h : In w C L X ls lt k kd ix od vl W) : L ≠ C + 1 ∧ L ≠ C := ⟨h.la.unlike h.ar.head (by decide), h.la.unlike h.ar.body (by decide)⟩
theorem In.neX (h : In w C L X ls lt k kd ix od vl W) : X ≠ C + 1 ∧ X ≠ C := ⟨h.bx.unlike h.ar.head (by decide), h.bx.unlike h.ar.body (by decide)⟩
theorem In.aft {ls' : List Int} {k' : Int} {W' : World} (h : In w C L X ls lt k kd ix od vl W) (hC : w.heap.size ≤ C) (g : Aft W (C + 1) C ls' k' W') : In w C L X ls' lt k' kd ix od vl W' :=
  ⟨g.1, h.la.turn g.2 (by have := h.neL; simp; omega), h.bx.turn g.2 (by have := h.neX; simp; omega), h.be.trans (g.2.below (by simp; omega) h.be.size)⟩
theorem In.drew (h : In w C L X ls lt k kd ix od vl W) : In w C L X ls lt k kd ix od vl W.drew := ⟨h.ar.drew, h.la, h.bx, h.be.drew⟩
theorem In.last (h : In w C L X ls lt k kd ix od vl W) (hn : lt.length = 20) (j : Nat) (hj : j < 20) : W.cell? ⟨L, j, none⟩ = some (.int .u64 (getA lt j)) ∧ W.frozen? ⟨L, j, none⟩ = false :=
  ⟨(h.la.cell j).trans (nums_at (by omega)), h.la.frozen j⟩
theorem In.put (h : In w C L X ls lt k kd ix od vl W) (hL : w.heap.size ≤ L) (j : Nat) (v : Int) : In w C L X ls (lt.set j v) k kd ix od vl (W.setCell ⟨L, j, none⟩ (.int .u64 v)) := by
  refine ⟨?_, ?_, ?_, h.be.setCell hL _⟩
  · exact h.ar.turn (L := [L]) ((Turns.refl _ _).setCell (.inl (by simp)) _) (by have := h.neL; simp; omega) (by have := h.neL; simp; omega)
  · have := h.la.set j (.int .u64 v)
    rwa [nums_set] at this
  · exact h.bx.far (p := ⟨L, j, none⟩) (h.bx.unlike h.la (by decide)) _
end

set_option maxRecDepth 100000 in
set_option maxHeartbeats 4000000 in
theorem last_law (A : Option Addr) (n cp : Nat) (F : Nat → Nat → Int) (w : World) (hr : Acts w A n F) :
    Calls Try.prog 7 #[.slice A n cp] w fun e w' => e = .returned (.bool true) ∧ Below w.heap.size w w' := by
  have hmx := hr.most
  unfold maxLen at hmx
  by_cases hlen : n ≤ 80
  · go_enter Try.func7, Try.ntmps7
    go_wp2_with fail
    refine (speaks_any _).mono ?_
    rintro e w1 ⟨rfl, hb1⟩
    go_wp2_with fail
    refine (new_any 20 _ (by omega) (by omega)).mono ?_
    rintro e w2 ⟨rfl, hm⟩
    have HT := Lib.hid (zeros_there w2)
    go_wp2_with (first
      | (with_reducible refine wpList_zbuild rfl rfl ?_)
      | (with_reducible refine wpList_zalloc rfl rfl ?_)
      | ((with_reducible refine wpList_zstore (b := w2.heap.size) rfl (.tmp 5) (.tmp 28) rfl ?_ ?_ HT.out ?_)
         · rfl
         · rfl)
      | fail)
    have hp1 := hb1.size
    have hz := zeros_laid w2
    clear HT
    generalize (w2.alloc (.cells (nums zeros) 51)).setCells w2.heap.size 0 (nums zeros).toList = w3 at *
    have hsz2 := hm.2.2
    have hm1 : Arena w2 (w1.heap.size + 1) w1.heap.size zeros 0 := hm.1
    have hat : LastAt w w1.heap.size w2.heap.size 0 w3 :=
      ⟨zeros, 0, rfl, by omega, hm1.below hz.2.1 (by omega) (by omega), hz.1, (hb1.trans (hm.2.1.mono hp1)).trans (hz.2.1.mono (by omega))⟩
    clear hz hm hm1
    rw [hsz2] at hat
    rw [hsz2]
    generalize w1.heap.size = C at *
    clear hb1 hsz2
    go_loopw [31] (fun i W => ∃ m : Nat, m ≤ n ∧ i = .int .i64 m ∧ LastAt w C (C + 2) m W) (fun i _ => n - (intOf i).toNat)
    case atStart => exact ⟨0, by omega, rfl, hat⟩
    case round =>
      clear hat
      obtain ⟨m, hmn, rfl, hat⟩ := hrel
      obtain ⟨ls, k, hl20, hk, har, hla, hbw⟩ := id hat
      by_cases hlt : m < n
      · obtain ⟨a, rfl, hab, hact⟩ := Acts.at4 (hr.keep (Nat.le_refl _) hbw) m hlt
        generalize F m 0 = kd at *
        generalize F m 1 = ix at *
        generalize F m 2 = od at *
        generalize F m 3 = vl at *
        obtain ⟨c0, c1, c2, c3, hk0, hi0, ho0, hv0⟩ := hact
        have HL := Lib.hid hl20
        clear hl20
        have hin : In w C (C + 2) wr.heap.size ls ls k kd ix od vl (wr.alloc (.cells #[.int .i64 kd, .int .i64 ix, .int .u64 od, .int .u64 vl] 35)) :=
          ⟨har.turn (L := []) ((Turns.refl _ _).alloc _) (by simp) (by simp), hla.alloc _, Lies.new _ _ _, hbw.alloc hbw.size _⟩
        go_upto_region 10 with (fail)
        clear har hla hbw c0 c1 c2 c3 hab hat
        generalize wr.alloc (.cells #[.int .i64 kd, .int .i64 ix, .int .u64 od, .int .u64 vl] 35) = w4 at *
        generalize wr.heap.size = X at *
        have d1 := hin.c1
        have d3 := hin.c3
        rcases hasA_cases ls ix with ho | ⟨j, rfl, hj⟩
        · have ho' : ix < 0 ∨ 0 ≤ ix ∧ 20 ≤ ix := by
            rw [hasA, HL.out] at ho
            simp at ho
            omega
          have HO := Lib.hid ho
          clear ho
          rcases ho' with h0 | ⟨h0, h20⟩
          all_goals
            go_wp2_with fail
            refine (store_any _ _ hv0 hin.ar (by omega)).mono ?_
            rintro e w5 ⟨rfl, h5⟩
            rw [HO.out]
            rw [setA_out HO.out, moreA_out HO.out] at h5
            have hin5 := hin.aft (by omega) h5
            have e1 := hin5.c1
            go_wp2_with fail
            refine (load_any _ h5.1 (by omega)).mono ?_
            rintro e w6 ⟨rfl, h6⟩
            rw [getA_out HO.out]
            rw [moreA_out HO.out] at h6
            have hin6 := hin5.aft (by omega) h6
            have f1 := hin6.c1
            have f3 := hin6.c3
            go_wp2_with fail
            refine (swap_any _ _ hv0 h6.1 (by omega)).mono ?_
            rintro e w7 ⟨rfl, h7⟩
            rw [getA_out HO.out]
            rw [setA_out HO.out, moreA_out HO.out] at h7
            have hin7 := hin6.aft (by omega) h7
            have g1 := hin7.c1
            have g3 := hin7.c3
            go_wp2_with fail
            refine (cas_any _ _ _ hv0 h7.1 (by omega)).mono ?_
            rintro e w8 ⟨rfl, h8⟩
            rw [show casB ls ix 0 = false by simp [casB, HO.out]]
            rw [show casA ls ix 0 vl = ls by simp [casA, casB, HO.out], moreA_out HO.out] at h8
            have hin8 := hin7.aft (by omega) h8
            go_wp2
            go_roundw
            case rel => exact ⟨m + 1, by omega, by go_num, ls, k, HL.out, by omega, hin8.ar, hin8.la, hin8.be⟩
            case measure => simp [intOf]; omega
        · have hj20 : j < 20 := by rw [← HL.out]; exact hj
          have hjn : ¬ (j : Int) < 0 := by omega
          have hjm : ¬ 20 ≤ (j : Int) := by omega
          have hlx := hin.last HL.out j hj20
          obtain ⟨hlx, flx⟩ := hlx
          have HY := Lib.hid (setA_nat hj vl)
          have HM := Lib.hid (moreA_nat hj k)
          generalize hy : getA ls j = y at *
          have HG := Lib.hid hy
          clear hy
          rcases Nat.mod_two_eq_zero_or_one m with hpar | hpar
          · have hp2 : ((m : Int) % 2 == 0) = true := by rw [beq_iff_eq]; omega
            have HP := Lib.hid hpar
            clear hpar
            go_wp2_with fail
            refine (store_any _ _ hv0 hin.ar (by omega)).mono ?_
            rintro e w5 ⟨rfl, h5⟩
            rw [HY.out, HM.out] at h5
            have hin5 := hin.aft (by omega) h5
            have e1 := hin5.c1
            have e3 := hin5.c3
            obtain ⟨hl5, fl5⟩ := hin5.last HL.out j hj20
            rw [HG.out] at hl5
            go_upto_region 18 with (fail)
            have hin6 := hin5.put (by omega) j vl
            clear hl5 fl5 e1 e3 hin5 h5 hin hlx flx HY d1 d3
            generalize w5.setCell ⟨C + 2, j, none⟩ (.int .u64 vl) = w6 at *
            have HQ := Lib.hid (show (ls.set j vl).length = 20 by rw [List.length_set]; exact HL.out)
            clear HL hj HM HG
            generalize ls.set j vl = lq at *
            have hla6 := hin6.la
            go_wp2_with (first
              | ((with_reducible refine wpList_lload (b := C + 2) (ls := lq) rfl (.tmp 5) rfl ?_ hla6 HQ.out ?_)
                 · rfl)
              | fail)
            go_loopw [100] (fun i W => ∃ q : Nat, q ≤ 20 ∧ i = .int .i64 q ∧ ∃ kk : Int, kk ≤ k + 1 + q ∧ In w C (C + 2) X lq lq kk kd j od vl W) (fun i _ => 20 - (intOf i).toNat)
            case atStart => exact ⟨0, by omega, rfl, k + 1, by omega, hin6⟩
            case round =>
              clear hla6 hin6
              obtain ⟨q, hq, rfl, kk, hkk, hin7⟩ := hrel
              by_cases hq20 : q < 20
              · have hidx := index_nums lq HQ.out q hq20
                go_wp2_with fail
                refine (load_any _ hin7.ar (by omega)).mono ?_
                rintro e w8 ⟨rfl, h8⟩
                rw [moreA_nat (by rw [HQ.out]; exact hq20)] at h8
                have hin8 := hin7.aft (by omega) h8
                clear hidx
                go_wp2
                go_roundw
                case rel => exact ⟨q + 1, by omega, by go_num, kk + 1, by omega, hin8⟩
                case measure => simp [intOf]; omega
              · go_wp2
                go_roundw
                case rel => exact ⟨m + 1, by omega, by go_num, lq, kk, HQ.out, by omega, hin7.ar, hin7.la, hin7.be⟩
                case measure => simp [intOf]; omega
          · have hp2 : ((m : Int) % 2 == 0) = false := by rw [beq_eq_false_iff_ne]; omega
            have HP := Lib.hid hpar
            clear hpar
            go_wp2_with fail
            go_region_held3 (fun W' => W'.cell? ⟨X, 1, none⟩ = some (.int .i64 j) ∧ W'.cell? ⟨X, 3, none⟩ = some (.int .u64 vl) ∧ W'.cell? ⟨C + 2, j, none⟩ = some (.int .u64 y))
              (first | exact ⟨d1, d3, hlx⟩ | exact ⟨e1, e3, hl5⟩)
              (first
                | (go_at_call 20
                   refine (swap_any _ _ hv0 hin.ar.drew (by omega)).mono ?_
                   rintro e w5 ⟨rfl, h5⟩
                   rw [HG.out]
                   rw [HY.out, HM.out] at h5
                   have hin5 := hin.drew.aft (by omega) h5
                   have e1 := hin5.c1
                   have e3 := hin5.c3
                   obtain ⟨hl5, fl5⟩ := hin5.last HL.out j hj20
                   rw [HG.out] at hl5))
            go_upto_region 18 with (fail)
            have hin6 := hin5.put (by omega) j vl
            clear hl5 fl5 e1 e3 hin5 h5 hin hlx flx HY d1 d3
            generalize w5.setCell ⟨C + 2, j, none⟩ (.int .u64 vl) = w6 at *
            have HQ := Lib.hid (show (ls.set j vl).length = 20 by rw [List.length_set]; exact HL.out)
            clear HL hj HM HG
            generalize ls.set j vl = lq at *
            have hla6 := hin6.la
            go_wp2_with (first
              | ((with_reducible refine wpList_lload (b := C + 2) (ls := lq) rfl (.tmp 5) rfl ?_ hla6 HQ.out ?_)
                 · rfl)
              | fail)
            go_loopw [100] (fun i W => ∃ q : Nat, q ≤ 20 ∧ i = .int .i64 q ∧ ∃ kk : Int, kk ≤ k + 1 + q ∧ In w C (C + 2) X lq lq kk kd j od vl W) (fun i _ => 20 - (intOf i).toNat)
            case atStart => exact ⟨0, by omega, rfl, k + 1, by omega, hin6⟩
            case round =>
              clear hla6 hin6
              obtain ⟨q, hq, rfl, kk, hkk, hin7⟩ := hrel
              by_cases hq20 : q < 20
              · have hidx := index_nums lq HQ.out q hq20
                go_wp2_with fail
                refine (load_any _ hin7.ar (by omega)).mono ?_
                rintro e w8 ⟨rfl, h8⟩
                rw [moreA_nat (by rw [HQ.out]; exact hq20)] at h8
                have hin8 := hin7.aft (by omega) h8
                clear hidx
                go_wp2
                go_roundw
                case rel => exact ⟨q + 1, by omega, by go_num, kk + 1, by omega, hin8⟩
                case measure => simp [intOf]; omega
              · go_wp2
                go_roundw
                case rel => exact ⟨m + 1, by omega, by go_num, lq, kk, HQ.out, by omega, hin7.ar, hin7.la, hin7.be⟩
                case measure => simp [intOf]; omega
      · go_wp2_with fail
        go_region_held3 (fun _ => True) (trivial)
          (first
            | (go_at_call 16
               refine (all_any _ _ _ _ _ har.drew).mono ?_
               rintro e w8 ⟨rfl, h8⟩
               rw [hl20]
               have hb8 := hbw.drew.trans (h8.2.1.mono hbw.size)
               have hr8 := nums_row h8.1 har.fit har.most
               have hq8 := nums_row (hla.drew.below h8.2.1 hla.lt) har.fit har.most
               rw [hl20] at hr8 hq8)
            | (go_at_call 15
               refine (same_yes _ _ _ _ _ ls _ hr8 hq8).mono ?_
               rintro e w9 ⟨rfl, q, rfl⟩))
        go_wp2
        go_ret
        exact ⟨rfl, drawn hb8 q⟩
  · go_enter Try.func7, Try.ntmps7
    go_wp2_with fail
    refine (speaks_any _).mono ?_
    rintro e w1 ⟨rfl, hb1⟩
    go_wp2_with fail
    refine (speaks_any _).mono ?_
    rintro e w2 ⟨rfl, hb2⟩
    go_wp2
    go_ret
    exact ⟨rfl, hb1.trans (hb2.mono hb1.size)⟩

end Go.Proofs.Ytpikcfnfappdiaa
