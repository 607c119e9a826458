/- The law: whatever accesses there are, an arena tells what the document says. -/
import Derived.Test.YtpikcfnfappdiaaC17
import Derived.Test.YtpikcfnfappdiaaC5
import Derived.Deep.DeepCutAuto
namespace Go.Proofs.Ytpikcfnfappdiaa
open Go.RowKit

set_option maxRecDepth 100000 in
set_option maxHeartbeats 4000000 in
theorem plays_law (nn : Int) (A : Option Addr) (n cp : Nat) (F : Nat → Nat → Int) (w : World) (hr : Acts w A n F) :
    Calls Try.prog 3 #[.int .i64 nn, .slice A n cp] w fun e w' => e = .returned (.bool true) ∧ Below w.heap.size w w' := by
  have hmx := hr.most
  unfold maxLen at hmx
  by_cases hlen : n ≤ 80
  · rcases (by omega : (nn < 1 ∨ 1 ≤ nn ∧ 1048576 < nn) ∨ 1 ≤ nn ∧ nn ≤ 1048576) with hout | ⟨hn1, hn2⟩
    · go_enter Try.func3, Try.ntmps3
      go_wp2_with fail
      refine (speaks_any _).mono ?_
      rintro e w1 ⟨rfl, hb1⟩
      go_wp2_with fail
      refine (new_out _ _ hout).mono ?_
      rintro e w2 ⟨rfl, rfl⟩
      go_wp2_with fail
      refine (rnew_out _ _ hout).mono ?_
      rintro e w2 ⟨rfl, hb2⟩
      have hp1 := hb1.size
      have hp2 := hb2.size
      go_wp2
      go_ret
      exact ⟨rfl, (hb1.trans (hb2.mono hp1)).alloc (by omega) _⟩
    · obtain ⟨N, rfl⟩ : ∃ N : Nat, nn = N := ⟨nn.toNat, by omega⟩
      go_enter Try.func3, Try.ntmps3
      go_wp2_with fail
      refine (speaks_any _).mono ?_
      rintro e w1 ⟨rfl, hb1⟩
      go_wp2_with fail
      refine (new_any N _ (by omega) (by omega)).mono ?_
      rintro e w2 ⟨rfl, hm⟩
      go_wp2_with fail
      refine (rnew_in N _ (by omega) (by omega)).mono ?_
      rintro e w3 ⟨rfl, hh3, hb3⟩
      have hp1 := hb1.size
      have hp2 := hm.2.1.size
      have hp3 := hb3.size
      have hz2 := hm.2.2
      by_cases h40 : (40 : Int) < N
      · go_wp2
        go_ret
        exact ⟨rfl, ((hb1.trans (hm.2.1.mono hp1)).trans (hb3.mono (by omega))).alloc (by omega) _⟩
      · go_upto_region 9 with (fail)
        have hat : PlayAt w w1.heap.size w3.heap.size N (List.replicate N 0) 0 (w1.heap.size + 2 + 1) N (w3.alloc (.cells #[.slice (some ⟨w1.heap.size + 2 + 1, 0, none⟩) N N, .int .i64 0] 30)) :=
          ⟨by simp, (hm.1.below hb3 (by omega) (by omega)).alloc _, Lies.new _ _ _, (by rw [hz2] at hh3; exact hh3.turn (L := []) ((Turns.refl _ _).alloc _) (by simp)), ((hb1.trans (hm.2.1.mono hp1)).trans (hb3.mono (by omega))).alloc (by omega) _⟩
        generalize w3.alloc (.cells #[.slice (some ⟨w1.heap.size + 2 + 1, 0, none⟩) N N, .int .i64 0] 30) = w4 at *
        have hM : w.heap.size ≤ w3.heap.size := by omega
        clear hm hh3 hb3 hb1 hz2 hp2
        generalize w3.heap.size = M at *
        have hC : w.heap.size ≤ w1.heap.size := hp1
        generalize w1.heap.size = C at *
        clear hp1 hp3
        go_wp2_with fail
        go_loopw [53] (fun i W => ∃ m : Nat, m ≤ n ∧ i = .int .i64 m ∧ ∃ (l : List Int) (k : Int) (g cap : Nat), k ≤ m ∧ PlayAt w C M N l k g cap W) (fun i _ => n - (intOf i).toNat)
        case atStart => exact ⟨0, by omega, rfl, _, _, _, _, by omega, hat⟩
        case round =>
          clear hat
          obtain ⟨m, hmn, rfl, l, k, g, cap, hkm, hat⟩ := hrel
          by_cases hlt : m < n
          · obtain ⟨a, rfl, hab, hact⟩ := Acts.at4 (hr.keep (Nat.le_refl _) hat.be) m hlt
            generalize F m 0 = kd at *
            generalize F m 1 = ix at *
            generalize F m 2 = od at *
            generalize F m 3 = vl at *
            obtain ⟨c0, c1, c2, c3, hk0, hi0, ho0, hv0⟩ := hact
            go_upto_region 13 with (fail)
            have hin : PlayIn w C M wr.heap.size N l l k k g cap kd ix od vl (wr.alloc (.cells #[.int .i64 kd, .int .i64 ix, .int .u64 od, .int .u64 vl] 35)) :=
              ⟨hat.ar.alloc _, hat.bx.alloc _, hat.h.turn (L := []) ((Turns.refl _ _).alloc _) (by simp), Lies.new _ _ _, hat.be.alloc hat.be.size _⟩
            have HN := Lib.hid hat.len
            have hk00 := hat.ar.k0
            clear hat c0 c1 c2 c3 hab
            generalize wr.alloc (.cells #[.int .i64 kd, .int .i64 ix, .int .u64 od, .int .u64 vl] 35) = w5 at *
            generalize wr.heap.size = X at *
            have b0 := hin.bx.cell 0
            have b1 := hin.bx.cell 1
            have x0 := hin.x.cell 0
            have x1 := hin.x.cell 1
            have x2 := hin.x.cell 2
            have x3 := hin.x.cell 3
            simp at b0 b1 x0 x1 x2 x3
            rcases (by omega : kd < 0 ∨ 0 ≤ kd ∧ (4 < kd ∨ kd ≤ 4)) with hq | ⟨hq, hq' | hq'⟩
            · go_wp2_with fail
              refine (rdoKK kd _ _ _ (by omega) hin.h HN.out (by omega) (by omega) (by omega) hin.ar.fit).mono ?_
              intro e w6 hd
              obtain ⟨g2, cap2, rfl, hh6, hb6⟩ := hd
              have hin6 := hin.below hb6
              clear b0 b1 x0 x1 x2 x3 hin hb6
              obtain ⟨kb0, kb1⟩ := moreA_bd l ix k
              have HLN := Lib.hid ((newK_length kd l ix od vl).trans HN.out)
              generalize hg1 : moreA l ix k = k' at *
              generalize hg2 : newK kd l ix od vl = l' at *
              generalize hg3 : ansK kd l ix = ax at *
              generalize hg4 : okK kd l ix od = ok at *
              have H1 := Lib.hid hg1
              have H2 := Lib.hid hg2
              have H3 := Lib.hid hg3
              have H4 := Lib.hid hg4
              clear hg1 hg2 hg3 hg4 HN
              go_upto_region 16 with (fail)
              have hin7 := hin6.below ((Below.refl _ _).alloc (Nat.le_refl _) (.cells #[.slice (some ⟨g2, 0, none⟩) N cap2, .int .i64 k'] 30))
              have hh7 := hh6.turn (L := []) ((Turns.refl _ _).alloc (.cells #[.slice (some ⟨g2, 0, none⟩) N cap2, .int .i64 k'] 30)) (by simp)
              have hy7 := Lies.new w6 30 #[.slice (some ⟨g2, 0, none⟩) N cap2, .int .i64 k']
              generalize w6.alloc (.cells #[.slice (some ⟨g2, 0, none⟩) N cap2, .int .i64 k'] 30) = w7 at *
              generalize w6.heap.size = Y at *
              clear hin6 hh6
              have y0 := hy7.cell 0
              have y1 := hy7.cell 1
              have b0 := hin7.bx.cell 0
              have b1 := hin7.bx.cell 1
              simp at y0 y1 b0 b1
              have bf0 := hin7.bx.frozen 0
              have bf1 := hin7.bx.frozen 1
              go_upto_region 17 with (fail)
              have hin8 := hin7.next (k' := k') (cap2 := cap2) hM hh7
              clear hin7 hh7 hy7 y0 y1 b0 b1 bf0 bf1
              generalize (w7.setCell ⟨M, 0, none⟩ (.slice (some ⟨g2, 0, none⟩) N cap2)).setCell ⟨M, 1, none⟩ (.int .i64 k') = w8 at *
              have x0 := hin8.x.cell 0
              have x1 := hin8.x.cell 1
              have x2 := hin8.x.cell 2
              have x3 := hin8.x.cell 3
              simp at x0 x1 x2 x3
              go_wp2_with fail
              refine (doK kd _ _ _ hin8.ar hv0 (by omega)).mono ?_
              rintro e w9 ⟨rfl, h9⟩
              rw [H3.out, H4.out]
              rw [H1.out, H2.out] at h9
              have hin9 := hin8.aft hC h9
              clear hin8 h9 x0 x1 x2 x3 H1 H2 H3 H4
              have b0 := hin9.bx.cell 0
              have b1 := hin9.bx.cell 1
              simp at b0 b1
              go_wp2_with fail
              go_region_held3 (fun W' => W'.cell? ⟨M, 0, none⟩ = some (.slice (some ⟨g2, 0, none⟩) N cap2) ∧ W'.cell? ⟨M, 1, none⟩ = some (.int .i64 k'))
                (first | exact ⟨b0, b1⟩ | exact ⟨d0, d1⟩)
                (first
                  | (go_at_call 13
                     refine (len_any hin9.ar.drew).mono ?_
                     rintro e w10 ⟨rfl, rfl⟩
                     rw [HLN.out])
                  | (go_at_call 14
                     refine (count_any hin9.ar.drew).mono ?_
                     rintro e w11 ⟨rfl, rfl⟩)
                  | (go_at_call 16
                     refine (all_any _ _ _ _ _ hin9.ar.drew).mono ?_
                     rintro e w12 ⟨rfl, h12⟩
                     rw [HLN.out]
                     have hin12 := hin9.drew.below h12.2.1
                     have d0 := hin12.bx.cell 0
                     have d1 := hin12.bx.cell 1
                     simp at d0 d1
                     have ra := nums_row h12.1 hin9.ar.fit hin9.ar.most
                     have rb := hin12.h.row hin9.ar.fit hin9.ar.most
                     rw [HLN.out] at ra rb)
                  | (go_at_call 15
                     refine (same_yes _ _ _ _ _ l' _ ra rb).mono ?_
                     rintro e w13 ⟨rfl, q, rfl⟩))
              go_wp2
              go_roundw
              case rel => exact ⟨m + 1, by omega, by go_num, l', k', g2, cap2, by omega, hin12.out HLN.out q⟩
              case measure => simp [intOf]; omega
            · go_wp2_with fail
              refine (rdoKK kd _ _ _ (by omega) hin.h HN.out (by omega) (by omega) (by omega) hin.ar.fit).mono ?_
              intro e w6 hd
              obtain ⟨g2, cap2, rfl, hh6, hb6⟩ := hd
              have hin6 := hin.below hb6
              clear b0 b1 x0 x1 x2 x3 hin hb6
              obtain ⟨kb0, kb1⟩ := moreA_bd l ix k
              have HLN := Lib.hid ((newK_length kd l ix od vl).trans HN.out)
              generalize hg1 : moreA l ix k = k' at *
              generalize hg2 : newK kd l ix od vl = l' at *
              generalize hg3 : ansK kd l ix = ax at *
              generalize hg4 : okK kd l ix od = ok at *
              have H1 := Lib.hid hg1
              have H2 := Lib.hid hg2
              have H3 := Lib.hid hg3
              have H4 := Lib.hid hg4
              clear hg1 hg2 hg3 hg4 HN
              go_upto_region 16 with (fail)
              have hin7 := hin6.below ((Below.refl _ _).alloc (Nat.le_refl _) (.cells #[.slice (some ⟨g2, 0, none⟩) N cap2, .int .i64 k'] 30))
              have hh7 := hh6.turn (L := []) ((Turns.refl _ _).alloc (.cells #[.slice (some ⟨g2, 0, none⟩) N cap2, .int .i64 k'] 30)) (by simp)
              have hy7 := Lies.new w6 30 #[.slice (some ⟨g2, 0, none⟩) N cap2, .int .i64 k']
              generalize w6.alloc (.cells #[.slice (some ⟨g2, 0, none⟩) N cap2, .int .i64 k'] 30) = w7 at *
              generalize w6.heap.size = Y at *
              clear hin6 hh6
              have y0 := hy7.cell 0
              have y1 := hy7.cell 1
              have b0 := hin7.bx.cell 0
              have b1 := hin7.bx.cell 1
              simp at y0 y1 b0 b1
              have bf0 := hin7.bx.frozen 0
              have bf1 := hin7.bx.frozen 1
              go_upto_region 17 with (fail)
              have hin8 := hin7.next (k' := k') (cap2 := cap2) hM hh7
              clear hin7 hh7 hy7 y0 y1 b0 b1 bf0 bf1
              generalize (w7.setCell ⟨M, 0, none⟩ (.slice (some ⟨g2, 0, none⟩) N cap2)).setCell ⟨M, 1, none⟩ (.int .i64 k') = w8 at *
              have x0 := hin8.x.cell 0
              have x1 := hin8.x.cell 1
              have x2 := hin8.x.cell 2
              have x3 := hin8.x.cell 3
              simp at x0 x1 x2 x3
              go_wp2_with fail
              refine (doK kd _ _ _ hin8.ar hv0 (by omega)).mono ?_
              rintro e w9 ⟨rfl, h9⟩
              rw [H3.out, H4.out]
              rw [H1.out, H2.out] at h9
              have hin9 := hin8.aft hC h9
              clear hin8 h9 x0 x1 x2 x3 H1 H2 H3 H4
              have b0 := hin9.bx.cell 0
              have b1 := hin9.bx.cell 1
              simp at b0 b1
              go_wp2_with fail
              go_region_held3 (fun W' => W'.cell? ⟨M, 0, none⟩ = some (.slice (some ⟨g2, 0, none⟩) N cap2) ∧ W'.cell? ⟨M, 1, none⟩ = some (.int .i64 k'))
                (first | exact ⟨b0, b1⟩ | exact ⟨d0, d1⟩)
                (first
                  | (go_at_call 13
                     refine (len_any hin9.ar.drew).mono ?_
                     rintro e w10 ⟨rfl, rfl⟩
                     rw [HLN.out])
                  | (go_at_call 14
                     refine (count_any hin9.ar.drew).mono ?_
                     rintro e w11 ⟨rfl, rfl⟩)
                  | (go_at_call 16
                     refine (all_any _ _ _ _ _ hin9.ar.drew).mono ?_
                     rintro e w12 ⟨rfl, h12⟩
                     rw [HLN.out]
                     have hin12 := hin9.drew.below h12.2.1
                     have d0 := hin12.bx.cell 0
                     have d1 := hin12.bx.cell 1
                     simp at d0 d1
                     have ra := nums_row h12.1 hin9.ar.fit hin9.ar.most
                     have rb := hin12.h.row hin9.ar.fit hin9.ar.most
                     rw [HLN.out] at ra rb)
                  | (go_at_call 15
                     refine (same_yes _ _ _ _ _ l' _ ra rb).mono ?_
                     rintro e w13 ⟨rfl, q, rfl⟩))
              go_wp2
              go_roundw
              case rel => exact ⟨m + 1, by omega, by go_num, l', k', g2, cap2, by omega, hin12.out HLN.out q⟩
              case measure => simp [intOf]; omega
            · go_wp2_with fail
              refine (rdoK kd _ _ _ (by omega) hin.h HN.out (by omega) (by omega) (by omega) hin.ar.fit).mono ?_
              intro e w6 hd
              obtain ⟨g2, cap2, rfl, hh6, hb6⟩ := hd
              have hin6 := hin.below hb6
              clear b0 b1 x0 x1 x2 x3 hin hb6
              obtain ⟨kb0, kb1⟩ := moreA_bd l ix k
              have HLN := Lib.hid ((newK_length kd l ix od vl).trans HN.out)
              generalize hg1 : moreA l ix k = k' at *
              generalize hg2 : newK kd l ix od vl = l' at *
              generalize hg3 : ansK kd l ix = ax at *
              generalize hg4 : okK kd l ix od = ok at *
              have H1 := Lib.hid hg1
              have H2 := Lib.hid hg2
              have H3 := Lib.hid hg3
              have H4 := Lib.hid hg4
              clear hg1 hg2 hg3 hg4 HN
              go_upto_region 16 with (fail)
              have hin7 := hin6.below ((Below.refl _ _).alloc (Nat.le_refl _) (.cells #[.slice (some ⟨g2, 0, none⟩) N cap2, .int .i64 k'] 30))
              have hh7 := hh6.turn (L := []) ((Turns.refl _ _).alloc (.cells #[.slice (some ⟨g2, 0, none⟩) N cap2, .int .i64 k'] 30)) (by simp)
              have hy7 := Lies.new w6 30 #[.slice (some ⟨g2, 0, none⟩) N cap2, .int .i64 k']
              generalize w6.alloc (.cells #[.slice (some ⟨g2, 0, none⟩) N cap2, .int .i64 k'] 30) = w7 at *
              generalize w6.heap.size = Y at *
              clear hin6 hh6
              have y0 := hy7.cell 0
              have y1 := hy7.cell 1
              have b0 := hin7.bx.cell 0
              have b1 := hin7.bx.cell 1
              simp at y0 y1 b0 b1
              have bf0 := hin7.bx.frozen 0
              have bf1 := hin7.bx.frozen 1
              go_upto_region 17 with (fail)
              have hin8 := hin7.next (k' := k') (cap2 := cap2) hM hh7
              clear hin7 hh7 hy7 y0 y1 b0 b1 bf0 bf1
              generalize (w7.setCell ⟨M, 0, none⟩ (.slice (some ⟨g2, 0, none⟩) N cap2)).setCell ⟨M, 1, none⟩ (.int .i64 k') = w8 at *
              have x0 := hin8.x.cell 0
              have x1 := hin8.x.cell 1
              have x2 := hin8.x.cell 2
              have x3 := hin8.x.cell 3
              simp at x0 x1 x2 x3
              go_wp2_with fail
              refine (doK kd _ _ _ hin8.ar hv0 (by omega)).mono ?_
              rintro e w9 ⟨rfl, h9⟩
              rw [H3.out, H4.out]
              rw [H1.out, H2.out] at h9
              have hin9 := hin8.aft hC h9
              clear hin8 h9 x0 x1 x2 x3 H1 H2 H3 H4
              have b0 := hin9.bx.cell 0
              have b1 := hin9.bx.cell 1
              simp at b0 b1
              go_wp2_with fail
              go_region_held3 (fun W' => W'.cell? ⟨M, 0, none⟩ = some (.slice (some ⟨g2, 0, none⟩) N cap2) ∧ W'.cell? ⟨M, 1, none⟩ = some (.int .i64 k'))
                (first | exact ⟨b0, b1⟩ | exact ⟨d0, d1⟩)
                (first
                  | (go_at_call 13
                     refine (len_any hin9.ar.drew).mono ?_
                     rintro e w10 ⟨rfl, rfl⟩
                     rw [HLN.out])
                  | (go_at_call 14
                     refine (count_any hin9.ar.drew).mono ?_
                     rintro e w11 ⟨rfl, rfl⟩)
                  | (go_at_call 16
                     refine (all_any _ _ _ _ _ hin9.ar.drew).mono ?_
                     rintro e w12 ⟨rfl, h12⟩
                     rw [HLN.out]
                     have hin12 := hin9.drew.below h12.2.1
                     have d0 := hin12.bx.cell 0
                     have d1 := hin12.bx.cell 1
                     simp at d0 d1
                     have ra := nums_row h12.1 hin9.ar.fit hin9.ar.most
                     have rb := hin12.h.row hin9.ar.fit hin9.ar.most
                     rw [HLN.out] at ra rb)
                  | (go_at_call 15
                     refine (same_yes _ _ _ _ _ l' _ ra rb).mono ?_
                     rintro e w13 ⟨rfl, q, rfl⟩))
              go_wp2
              go_roundw
              case rel => exact ⟨m + 1, by omega, by go_num, l', k', g2, cap2, by omega, hin12.out HLN.out q⟩
              case measure => simp [intOf]; omega
          · go_wp2
            go_ret
            exact ⟨rfl, hat.be⟩
  · go_enter Try.func3, Try.ntmps3
    go_wp2_with fail
    refine (speaks_any _).mono ?_
    rintro e w1 ⟨rfl, hb1⟩
    go_wp2_with fail
    refine (speaks_any _).mono ?_
    rintro e w2 ⟨rfl, hb2⟩
    go_wp2
    go_ret
    exact ⟨rfl, hb1.trans (hb2.mono hb1.size)⟩

end Go.Proofs.Ytpikcfnfappdiaa
