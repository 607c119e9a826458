/- The inbox: a drain takes out all that was put ahead of its first step. -/
import Derived.Test.YthkklcmmbpffiaaUE7
import Derived.Deep.CutBlock
import Derived.Deep.DeepCutAuto
namespace Go.Proofs.Ythkklcmmbpffiaa
open Go.RowKit Go.ChangeShapes Go.WideShapes
set_option maxRecDepth 100000

set_option maxHeartbeats 4000000 in
theorem drains9 (az : Nat → Nat) (has : ∀ k, az k < 256) (PA : Option Addr) (np pcp : Nat) (xs : List Int) (w : World) (hp : Row w .i64 PA np xs) :
    Calls Try.prog 9 #[.agg #[.int .u8 (az 0 : Nat), .int .u8 (az 1 : Nat), .int .u8 (az 2 : Nat), .int .u8 (az 3 : Nat)], .slice PA np pcp] w fun e w' => e = .returned (.bool true) ∧ Below w.heap.size w w' := by
  by_cases h4 : 400 < np
  · have b0 : Below w.heap.size w (w.alloc (.cells #[.int .u8 (az 0 : Nat), .int .u8 (az 1 : Nat), .int .u8 (az 2 : Nat), .int .u8 (az 3 : Nat)] 77)) := (Below.refl _ _).alloc (Nat.le_refl _) _
    clear hp
    have h4' : (400 : Int) < np := by omega
    clear h4
    go_enter Try.func9, Try.ntmps9
    go_wp2_with fail
    refine (speaks9_any _).mono ?_
    rintro e w1 ⟨rfl, b1⟩
    go_wp2_with fail
    refine (speaks9_any _).mono ?_
    rintro e w2 ⟨rfl, b2⟩
    go_wp2
    go_ret
    exact ⟨rfl, (b0.trans (b1.mono b0.size)).trans (b2.mono (b0.trans (b1.mono b0.size)).size)⟩
  · have h4' : ¬ ((400 : Int) < np) := by omega
    · have HPD := Lib.hid hp
      clear hp
      obtain ⟨mz, hmz⟩ : ∃ mz : Nat → Nat, (fun k => az k % 6) = mz := ⟨_, rfl⟩
      have HMZ : Hid ((fun k => az k % 6) = mz ∧ ∀ k, mz k ≤ 5) := Lib.hid ⟨hmz, fun k => by rw [← hmz]; show az k % 6 ≤ 5; omega⟩
      clear hmz
      go_enter Try.func9, Try.ntmps9
      obtain ⟨w0, hw0⟩ : ∃ w0, w.alloc (.cells #[.int .u8 (az 0 : Nat), .int .u8 (az 1 : Nat), .int .u8 (az 2 : Nat), .int .u8 (az 3 : Nat)] 77) = w0 := ⟨_, rfl⟩
      have k00 : Turns [] w w0 := by rw [← hw0]; exact (Turns.refl _ _).alloc _
      have la4 : Lies w0 w.heap.size 77 #[.int .u8 (az 0 : Nat), .int .u8 (az 1 : Nat), .int .u8 (az 2 : Nat), .int .u8 (az 3 : Nat)] := by rw [← hw0]; exact Lies.new _ _ _
      have b0 : Below w.heap.size w w0 := k00.below (by simp) (Nat.le_refl _)
      go_upto_region 1 with (fail)
      try rw [hw0]
      clear hw0 k00
      go_wp2_with fail
      refine (speaks9_any _).mono ?_
      rintro e w1 ⟨rfl, b1⟩
      have la4 := la4.below b1 la4.lt
      have b01 : Below w.heap.size w w1 := b0.trans (b1.mono b0.size)
      have lt4 : w.heap.size < w1.heap.size := la4.lt
      clear b0 b1
      go_wp2_with fail
      refine (show Calls Try.prog 28 #[.int .i64 20] _ _ from fresh9_any 20 (by omega) w1).mono ?_
      rintro e w2 ⟨p, c, bn, ba, rfl, ha, hb, hc, hp, hbn, hba, la, ln⟩
      have hmf := hmf_run
      have y2 := fun (a : Addr) (f : FuncId) (c : Array Value) (w : World) => run_store Try.prog w a (.func (.func f) #[] c) .plain rfl
      have la4 := la4.below hb la4.lt
      have hb1 := hb.size
      have z1 := ha.head.lt
      obtain ⟨h1, hh⟩ : ∃ h1, w2.heap.size = h1 := ⟨_, rfl⟩
      obtain ⟨W3, hW3⟩ : ∃ W3, ((w2.alloc (.cells (bxC p 0 1 46 47 #[] #[ptr ba, ptr bn]) 62)).alloc (.cells #[.slice none 0 0] 31)).alloc (.cells #[.slice none 0 0, .slice none 0 0] 72) = W3 := ⟨_, rfl⟩
      have k3 : Turns [] w2 W3 := by rw [← hW3]; exact (((Turns.refl _ _).alloc _).alloc _).alloc _
      have lb : Lies W3 h1 62 (bxC p 0 1 46 47 #[] #[ptr ba, ptr bn]) := by rw [← hW3, ← hh]; exact ((Lies.new _ _ _).alloc _).alloc _
      have le : Lies W3 (h1 + 1) 31 #[.slice none 0 0] := by rw [← hW3]; exact (Lies.new_of _ _ (by simp [hh])).alloc _
      have lo : Lies W3 (h1 + 1 + 1) 72 #[.slice none 0 0, .slice none 0 0] := by rw [← hW3]; exact Lies.new_of _ _ (by simp [hh])
      have z3 : W3.heap.size = h1 + 1 + 1 + 1 := by rw [← hW3]; simp [hh]
      obtain ⟨hG, hI, hX, hR0⟩ := begin9 (W := W3) (B := w1.heap.size) (r := 3000) (ex := []) (ha.turn k3 (by simp) (by simp)) (by omega) (bok_zero 20) lo lb (la.turn k3 (by simp)) (ln.turn k3 (by simp)) (by omega) hc (by omega) (by omega) (by omega) (by simp) (by simp)
      have la4 := la4.turn k3 (by simp)
      have b3 : Below w1.heap.size w1 W3 := hb.trans (k3.below (by simp) hb1)
      obtain ⟨P, hP⟩ : ∃ P, (⟨p, c, w1.heap.size, 20, h1 + 1 + 1, []⟩ : BP) = P := ⟨_, rfl⟩
      have gp : P.n = 20 ∧ P.B = w1.heap.size ∧ P.ob = h1 + 1 + 1 ∧ P.p = p ∧ P.ex = [] := by rw [← hP]; exact ⟨rfl, rfl, rfl, rfl, rfl⟩
      rw [hP] at hG hI hX hR0
      obtain ⟨s0, hs0⟩ : ∃ s0, (⟨List.replicate (2 + 2 * 20) 0, 0, [], []⟩ : BSt) = s0 := ⟨_, rfl⟩
      have hI : BI P 3000 s0 W3 := by rw [← hs0]; exact hI
      have hA : bxP P #[ptr ba, ptr bn] = bxV p 0 1 46 47 #[] #[ptr ba, ptr bn] := by rw [← gp.2.2.2.1]
      have hDr : (BM (P.wide [h1 + 1])).Makes 3000 (startD 1) 31 #[bxP P #[ptr ba, ptr bn], .int .i64 ((1 : Nat) : Int), ptr (h1 + 1 + 1)] W3 := by
        have := drains_g (P.wide [h1 + 1]) (hG.wide _) (dcap := #[ptr ba, ptr bn]) 3000 1 (by omega) W3 ((bm_ok _ (hG.wide _)).okw _ _ _ (hI.wide (ex := [h1 + 1]) fun b hb => by rw [List.mem_singleton] at hb; rw [hb]; exact le.lt))
        rw [← gp.2.2.1]
        exact this
      rw [hA, show ((1 : Nat) : Int) = 1 from rfl] at hDr
      obtain ⟨c0, c1, c2, c3, c4, c5, c6⟩ := hX.cells
      rw [gp.2.2.2.1] at c0 c4
      have HI := Lib.hid (And.intro hI (And.intro hX (And.intro gp (And.intro hR0 le))))
      have HS0 := Lib.hid hs0
      have HA := Lib.hid hA
      clear hI hX ha la ln lb lo le hP hs0 hA gp hR0 k3 hb
      unfold Gm.Makes at hDr
      go_upto_region 8 with (fail)
      try rw [hh]
      try rw [hW3]
      clear hW3
      go_wp2_with fail
      refine (show Calls Try.prog 31 #[bxV p 0 1 46 47 #[] #[ptr ba, ptr bn], .int .i64 1, ptr (h1 + 1 + 1)] _ _ from hDr).mono ?_
      rintro e w4 ⟨v0, rfl, hc0, t4⟩
      clear c0 c1 c2 c3 c4 c5 c6 y2 hmf hDr
      have hn := newtask_any v0 hc0.is w4
      go_wp2_with fail
      refine hn.mono ?_
      rintro e w5 ⟨rfl, hw5⟩
      obtain ⟨hI, hX, gp, hR0, le⟩ := HI.out
      have bP3 : P.B ≤ W3.heap.size := ((bm_ok P hG).okw _ _ _ hI).base
      have hle1 : P.B ≤ h1 + 1 := by rw [gp.2.1]; omega
      obtain ⟨hGD, hS⟩ := Md9.first (m := mz) (w0 := w1) hG gp.2.2.2.2 hI hX hR0 le hle1 (b3.mono (by rw [gp.2.1]; exact Nat.le_refl _)) t4 hc0
      have z5 : w5.heap.size = w4.heap.size + 1 := by rw [← hw5]; simp
      obtain ⟨W7, hW7⟩ : ∃ W7, (w5.alloc (.cells #[ptr w4.heap.size] 35)).alloc (.cells #[ptr w4.heap.size] 35) = W7 := ⟨_, rfl⟩
      have e79 : W79 w4 v0 = W7 := by rw [← hW7, ← hw5]; rfl
      rw [e79] at hS
      have k47 : Turns [] w4 W7 := by rw [← e79]; exact (((Turns.refl _ _).alloc _).alloc _).alloc _
      have la4 := la4.turn (t4.trans k47) (by simp)
      obtain ⟨D, hD⟩ : ∃ D, D9 P (h1 + 1) w4.heap.size = D := ⟨_, rfl⟩
      have gd : D.P = P ∧ D.eb = h1 + 1 ∧ D.dv = w4.heap.size + 1 ∧ D.td = w4.heap.size := by rw [← hD]; exact ⟨rfl, rfl, rfl, rfl⟩
      rw [hD] at hGD hS
      have ctd : ∀ W : World, Md9 w1 D h1 ba bn mz s0 0 (.slice (some ⟨w4.heap.size + 2, 0, none⟩) 1 1) W → True := fun _ _ => trivial
      clear ctd hn hw5 hc0 hI hX hR0 t4 k47 b3 z1 bP3 hle1 le e79 hD
      have HP := Lib.hid gp
      have HD := Lib.hid gd
      clear gp gd
      go_upto_region 9 with (fail)
      try rw [z5]
      generalize w4.heap.size = td at *
      obtain ⟨g7, hg7⟩ : ∃ g7, td + 1 + 1 = g7 := ⟨_, rfl⟩
      have hS : Md9 w1 D h1 ba bn mz s0 0 (.slice (some ⟨g7, 0, none⟩) 1 1) W7 := by rw [← hg7]; exact hS
      go_upto_region 10 with (fail)
      try rw [z5]
      try rw [hg7]
      try rw [hW7]
      clear hW7 z5 hg7
      obtain ⟨q0, q1, q2, q3⟩ : W7.cell? ⟨w.heap.size, 0, none⟩ = some (.int .u8 (az 0 : Nat)) ∧ W7.cell? ⟨w.heap.size, 1, none⟩ = some (.int .u8 (az 1 : Nat)) ∧ W7.cell? ⟨w.heap.size, 2, none⟩ = some (.int .u8 (az 2 : Nat)) ∧ W7.cell? ⟨w.heap.size, 3, none⟩ = some (.int .u8 (az 3 : Nat)) := ⟨la4.cell 0, la4.cell 1, la4.cell 2, la4.cell 3⟩
      clear la4
      go_wp2_with fail
      clear q0 q1 q2 q3
      go_loopw [10, 11, 12, 13, 14, 43] (fun tv _ _ _ _ i W => ∃ t : Nat, i = .int .i64 (t : Int) ∧ t ≤ 4 ∧ Md9 w1 D h1 ba bn mz s0 t tv W) (fun _ _ _ _ _ i _ => 4 - (intOf i).toNat)
      case atStart => exact ⟨0, rfl, by omega, hS⟩
      case round =>
        clear hS
        obtain ⟨t, rfl, ht, hS⟩ := hrel
        generalize wr = W at *
        generalize u10 = tv at *
        by_cases ht4 : t < 4
        · have hidx := index_four az t ht4
          have ht4' : (t : Int) < 4 := by omega
          obtain ⟨mm, hmm⟩ : ∃ mm, az t % 6 = mm := ⟨_, rfl⟩
          have hat := has t
          have hmod6 : (((az t : Nat) : Int).tmod 6) = (mm : Int) := by rw [← hmm]; rw [Int.tmod_eq_emod_of_nonneg (by omega)]; omega
          have hwa : IntKind.i64.wrap ((az t : Nat) : Int) = (az t : Nat) := by rw [IntKind.wrap_i64]; omega
          have hwm : IntKind.i64.wrap (mm : Int) = mm := by rw [IntKind.wrap_i64]; omega
          have hw5t : IntKind.i64.wrap (5 * (t : Int)) = 5 * t := by rw [IntKind.wrap_i64]; omega
          have hm5 : mm < 6 := by omega
          have HMM : Hid (mz t = mm) := Lib.hid (by rw [← HMZ.out.1]; exact hmm)
          clear hmm
          have hO : Out W (.slice none 0 0) (upB (5 * t) 0) W := ⟨IRow.nil _ _, Below.refl _ _⟩
          generalize az t = at' at *
          go_wp2_with fail
          clear hmod6 hidx hat hwa
          go_loopw [13, 14, 50] (fun v _ k X => ∃ q : Nat, k = .int .i64 (q : Int) ∧ q ≤ mm ∧ Out W v (upB (5 * t) q) X) (fun _ _ k _ => mm - (intOf k).toNat)
          case atStart => exact ⟨0, rfl, Nat.zero_le _, hO⟩
          case round =>
            clear hO
            obtain ⟨q, rfl, hq, hO⟩ := hrel
            generalize wr = X at *
            generalize u13 = mv at *
            by_cases hqm : q < mm
            · have hl := upB_length (5 * t) q
              have F := fun v' w' (h : Out W v' (upB (5 * t) q ++ [(5 * (t : Int) + q : Int)]) w') => (show Out W v' (upB (5 * t) (q + 1)) w' from by rw [upB_succ]; exact h)
              have HF := Lib.hid F
              clear F
              have hwq : IntKind.i64.wrap (5 * (t : Int) + q) = 5 * t + q := by rw [IntKind.wrap_i64]; omega
              generalize upB (5 * t) q = ys at *
              go_wp2_with (first | (at_builtin; refine wpList_out hO (n := (5 * (t : Int) + q : Int)) (WalkArith.wf_i64 (by omega)) (by omega) (by rfl) (.tmp 53) (.tmp 58) rfl rfl rfl ?_; intro v3 w3 hO3) | fail)
              go_roundw
              case rel => exact ⟨q + 1, by go_num, by omega, HF.out _ _ hO3⟩
              case measure => simp [intOf]; omega
            · obtain rfl : q = mm := by omega
              have tX : Turns [] W X := Turns.of_below hO.be (Nat.le_refl _)
              have hmmt : mz t = q := HMM.out
              have gp := HP.out
              have gd := HD.out
              have hSX := hS.turns hGD tX
              have hpu := hSX.puts hGD (by rw [gd.1]; exact gp.1) ht4 HMZ.out.2 (v := mv) (B := W.heap.size) (by rw [hmmt]; exact hO.row)
              rw [hmmt] at hpu
              obtain ⟨A1, cp1, hmv, hle1, hMk⟩ := hpu
              subst hmv
              have hbx := hSX.me.ctx.box.l
              have hxd := hSX.me.ctx.xd.l
              rw [gd.1, gp.2.2.2.1] at hbx
              have hdv := gd.2.2.1
              rw [gd.1, HA.out] at hMk
              obtain ⟨c0, c1, c2, c3, c4, c5, c6⟩ : X.cell? ⟨h1, 0, none⟩ = some (ptr p) ∧ X.cell? ⟨h1, 1, none⟩ = some (.int .i64 0) ∧ X.cell? ⟨h1, 2, none⟩ = some (.func (.func 46) #[] #[]) ∧ X.cell? ⟨h1, 3, none⟩ = some (.func (.func 47) #[] #[ptr ba, ptr bn]) ∧ X.cell? ⟨h1, 4, none⟩ = some (ptr p) ∧ X.cell? ⟨h1, 5, none⟩ = some (.int .i64 1) ∧ X.cell? ⟨h1, 6, none⟩ = some (.func (.func 46) #[] #[]) := ⟨hbx.cell 0, hbx.cell 1, hbx.cell 2, hbx.cell 3, hbx.cell 4, hbx.cell 5, hbx.cell 6⟩
              obtain ⟨ts, hts⟩ := hSX.at_
              have htv := hts.tv
              have HS := Lib.hid (And.intro hSX (And.intro hts hmmt))
              have hMk := hMk X (Turns.refl _ _)
              rw [gd.2.1, gd.2.2.1] at hMk
              have hmf := hmf_run
              clear hS hSX tX hO hts hmmt gp gd hbx hxd hdv
              unfold Gm.Makes at hMk
              go_wp2_with fail
              refine (show Calls Try.prog 30 #[bxV p 0 1 46 47 #[] #[ptr ba, ptr bn], .slice A1 q cp1, .func (.func 35) #[] #[ptr (td + 1), ptr (h1 + 1)]] _ _ from hMk).mono ?_
              rintro e w7 ⟨cv, rfl, hcv, t7⟩
              clear c0 c1 c2 c3 c4 c5 c6 hMk
              have hn := newtask_any cv hcv.is w7
              go_wp2_with fail
              refine hn.mono ?_
              rintro e w8 ⟨rfl, hw8⟩
              obtain ⟨hS, hts, hmmt⟩ := HS.out
              have k78 : Turns [] w7 w8 := by rw [← hw8]; exact (Turns.refl _ _).alloc _
              have htv8 := (hts.tv.turns t7 (by simp)).turns k78 (by simp)
              have F := Lib.hid (fun tv' W4 (r1 : VRow W4 D.B 35 tv' ((List.range (t + 1)).map (fun k => ptr (ts k)) ++ [ptr w7.heap.size])) (r2 : Turns tv.ownBlock.toList w8 W4) => Md9.next (tv' := tv') (W4 := W4) (cv := cv) hGD hS t7 (by rw [hmmt]; exact hcv) hts r1 (by rw [hw8]; exact r2))
              have hvl : ((List.range (t + 1)).map fun i => ptr (ts i)).length = t + 1 := by simp
              have HVL := Lib.hid hvl
              have hB8 : D.B ≤ w8.heap.size := by
                have h1 := ((dm_ok D hGD).okw _ _ _ hS.me.si).base
                have h2 := t7.size
                have h3 := k78.size
                have h1 : D.B ≤ X.heap.size := h1
                omega
              clear hS hts hn hw8 hvl hcv htv t7 k78 hmmt hmf
              generalize hvals : ((List.range (t + 1)).map fun i => ptr (ts i)) = vals at *
              clear hvals
              go_wp2_with (first | (at_builtin; refine wpList_vrow (T := 48) (E := 35) (z := .pointer none) (u := ptr w7.heap.size) (nb := 8) Try.underlying48 (by kernel_rfl) (by omega) rfl rfl htv8 hB8 (by rw [HVL.out]; omega) (by rfl) (.tmp 61) (.tmp 67) rfl rfl rfl ?_; intro tv' W9 r1 r2) | fail)
              go_roundw
              case rel => exact ⟨t + 1, by go_num, by omega, F.out _ _ r1 r2⟩
              case measure => simp [intOf]; omega
        · obtain rfl : t = 4 := by omega
          have gp := HP.out
          have gd := HD.out
          have hPn : D.P.n = 20 := by rw [gd.1]; exact gp.1
          obtain ⟨ts, hDv⟩ := hS.done hGD HMZ.out.2 HS0.out
          have HAL : Hid ((allF mz 4).length ≤ 20) := Lib.hid (by have := allF_len HMZ.out.2 4; omega)
          clear hS
          generalize allF mz 4 = al at *
          obtain ⟨TA, tcp, htv, _, _⟩ := hDv.tv.slice
          rw [show ((List.range 5).map fun k => ptr (ts k)).length = 5 by simp] at htv
          subst htv
          have hrun := run_inv (fun m W => m ≤ np ∧ Dv9 w1 D al ts (.slice TA 5 tcp) (3000 - m) m W) TA PA 5 tcp np pcp ts xs W (by omega) (by omega) HPD.out.len HPD.out.wf
            (fun m W' hm hI _ => by
              obtain ⟨A', cp', h1', _, h2'⟩ := hI.2.tv.slice
              have hl : ((List.range 5).map fun i => ptr (ts i)).length = 5 := by simp
              rw [hl] at h1' h2'
              injection h1' with h1' _ _
              subst h1'
              obtain ⟨g, h4, _, h5⟩ := h2' (by omega)
              exact ⟨_, h4, fun j hj => by rw [Addr.add_mid, Nat.zero_add]; exact h5 j _ (by simp [hj])⟩)
            (fun m W' hm hI hn => by
              have bY : Below w.heap.size w W' := b01.trans (hI.2.be.mono (by rw [gd.1, gp.2.1]; omega))
              obtain ⟨pa, e, hpb, hpc⟩ := (HPD.out.keep (Nat.le_refl _) bY).at_ (by omega)
              exact ⟨pa, e, hpc⟩)
            (fun m W' hm hI => ⟨by omega, Dv9.less hGD (by rw [show 3000 - (m + 1) + 1 = 3000 - m by omega]; exact hI.2)⟩)
            (fun m W' j hm hj hI => by
              have hr : 3000 - m = 3000 - (m + 1) + 1 := by omega
              have hI2 := hI.2
              rw [hr] at hI2
              rcases Nat.eq_zero_or_pos j with rfl | hj0
              · obtain ⟨bb, a1, a2⟩ := hI2.step0 hGD hPn (by omega)
                exact ⟨bb, a1, fun e => (a2 e).mono fun e' w' h => ⟨h.1, by omega, h.2⟩⟩
              · obtain ⟨bb, a1, a2⟩ := hI2.stepj hGD hPn (by omega) hj0 hj
                exact ⟨bb, a1, fun e => (a2 e).mono fun e' w' h => ⟨h.1, by omega, h.2⟩⟩)
            ⟨Nat.zero_le _, hDv⟩
          have HTD := Lib.hid gd.2.2.2
          clear hDv gp gd
          rw [show ((4 : Nat) : Int) = 4 from rfl]
          go_wp2_with fail
          refine hrun.mono ?_
          rintro e W2 ⟨⟨rv, rfl⟩, _, hDv⟩
          have hfi := hDv.ends hGD hPn HAL.out (by omega) (by omega) (by omega)
          rw [HTD.out] at hfi
          have cdv : W2.cell? ⟨td + 1, 0, none⟩ = some (ptr td) := by
            have h := hDv.dv.cell
            rw [HD.out.2.2.1, HD.out.2.2.2] at h
            exact h
          clear hrun hDv
          go_wp2_with fail
          refine hfi.mono ?_
          rintro e W3 ⟨rfl, en, got, hE⟩
          obtain ⟨ve, hle, hre⟩ := hE.ev
          obtain ⟨vo, uo, hlo, hro⟩ := hE.ow
          have hsub := hE.sub
          have bW : Below w.heap.size w W3 := b01.trans (hE.be.mono (by rw [HD.out.1, HP.out.2.1]; omega))
          rw [HD.out.2.1] at hle
          rw [HD.out.1, HP.out.2.2.1] at hlo
          have ce : W3.cell? ⟨h1 + 1, 0, none⟩ = some ve := hle.cell 0
          have co : W3.cell? ⟨h1 + 1 + 1, 0, none⟩ = some vo := hlo.cell 0
          obtain ⟨EA, ecp, rfl, her⟩ := hre.row
          obtain ⟨GA, gcp, rfl, hgr⟩ := hro.row
          have hel := hE.el.1
          have hgl := hE.el.2
          obtain ⟨ne, hne⟩ : ∃ ne, en.length = ne := ⟨_, rfl⟩
          obtain ⟨ng, hng⟩ : ∃ ng, got.length = ng := ⟨_, rfl⟩
          rw [hne] at her ce hel
          rw [hng] at hgr co hgl
          have HN := Lib.hid (And.intro hne hng)
          have HER := Lib.hid her
          have HGR := Lib.hid hgr
          have HSUB := Lib.hid hsub
          have HBW := Lib.hid bW
          clear hE hle hlo hre hro hsub bW her hgr hne hng hfi cdv
          go_wp2_with fail
          clear ce
          go_loopw [16, 17, 19, 78] (fun _ _ _ i W => ∃ t : Nat, i = .int .i64 (t : Int) ∧ t ≤ ne ∧ W = W3) (fun _ _ _ i _ => ne - (intOf i).toNat)
          case atStart => exact ⟨0, rfl, Nat.zero_le _, rfl⟩
          case round =>
            obtain ⟨t, rfl, ht, rfl⟩ := hrel
            by_cases htn : t < ne
            · have htn' : (t : Int) < ne := by omega
              have hnl := HN.out.1
              obtain ⟨ea, rfl, _, hec⟩ := HER.out.at_ (by omega)
              have het := hec t htn
              have hmem : en.getD t 0 ∈ en := by
                rw [List.getD_eq_getElem?_getD, List.getElem?_eq_getElem (by omega)]
                exact List.getElem_mem _
              have hin := HSUB.out _ hmem
              clear hec hmem hnl
              generalize en.getD t 0 = x at *
              go_wp2_with fail
              go_loopw [17, 19, 87] (fun mv _ i X => ∃ j : Nat, i = .int .i64 (j : Int) ∧ j ≤ ng ∧ mv = .bool (among got j x) ∧ X = wr) (fun _ _ i _ => ng - (intOf i).toNat)
              case atStart => exact ⟨0, rfl, Nat.zero_le _, rfl, rfl⟩
              case round =>
                obtain ⟨j, rfl, hj, rfl, rfl⟩ := hrel
                by_cases hjl : j < ng
                · have hjl' : (j : Int) < ng := by omega
                  have hnl := HN.out.2
                  obtain ⟨aa, rfl, _, hac⟩ := HGR.out.at_ (by omega)
                  have haj := hac j hjl
                  have hsu := among_succ (al := got) (j := j) (x := x) (by omega)
                  have HSU := Lib.hid hsu
                  clear hac hsu hnl
                  generalize got.getD j 0 = y at *
                  generalize among got j x = mb at *
                  cases mb with
                  | true =>
                    go_wp2
                    go_roundw
                    case rel => exact ⟨j + 1, by go_num, by omega, by rw [HSU.out]; rfl, by trivial⟩
                    case measure => simp [intOf]; omega
                  | false =>
                    obtain ⟨yb, hyb⟩ : ∃ yb : Bool, (y == x) = yb := ⟨_, rfl⟩
                    have HSU2 : Hid (among got (j + 1) x = yb) := Lib.hid (by rw [HSU.out, hyb]; rfl)
                    clear HSU
                    go_wp2
                    go_roundw
                    case rel => exact ⟨j + 1, by go_num, by omega, by rw [HSU2.out], by trivial⟩
                    case measure => simp [intOf]; omega
                · obtain rfl : j = ng := by omega
                  have hae : among got j x = true := by rw [← HN.out.2, among_all]; exact decide_eq_true hin
                  clear hin
                  generalize among got j x = mb at *
                  subst hae
                  go_wp2
                  go_roundw
                  case rel => exact ⟨t + 1, by go_num, by omega, by trivial⟩
                  case measure => simp [intOf]; omega
            · obtain rfl : t = ne := by omega
              go_wp2
              go_ret
              exact ⟨rfl, HBW.out⟩

theorem drains9_nat (a0 a1 a2 a3 : Int) (PA : Option Addr) (np pcp : Nat) (xs : List Int) (w : World) (h0 : 0 ≤ a0 ∧ a0 < 256) (h1 : 0 ≤ a1 ∧ a1 < 256) (h2 : 0 ≤ a2 ∧ a2 < 256) (h3 : 0 ≤ a3 ∧ a3 < 256) (hp : Row w .i64 PA np xs) :
    Calls Try.prog 9 #[.agg #[.int .u8 a0, .int .u8 a1, .int .u8 a2, .int .u8 a3], .slice PA np pcp] w fun e w' => e = .returned (.bool true) ∧ Below w.heap.size w w' := by
  obtain ⟨x0, rfl⟩ := Int.eq_ofNat_of_zero_le h0.1
  obtain ⟨x1, rfl⟩ := Int.eq_ofNat_of_zero_le h1.1
  obtain ⟨x2, rfl⟩ := Int.eq_ofNat_of_zero_le h2.1
  obtain ⟨x3, rfl⟩ := Int.eq_ofNat_of_zero_le h3.1
  exact drains9 (fun k => match k with | 0 => x0 | 1 => x1 | 2 => x2 | _ => x3) (fun k => by
    match k with
    | 0 => show x0 < 256; omega
    | 1 => show x1 < 256; omega
    | 2 => show x2 < 256; omega
    | n + 3 => show x3 < 256; omega) PA np pcp xs w hp

end Go.Proofs.Ythkklcmmbpffiaa
