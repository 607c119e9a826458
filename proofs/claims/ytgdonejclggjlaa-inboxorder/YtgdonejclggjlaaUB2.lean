/- The inbox: InboxOrder. -/
import Derived.Test.YtgdonejclggjlaaUB1
import Derived.BigRegion
namespace Go.Proofs.Ytgdonejclggjlaa
open Go.RowKit Go.ChangeShapes Go.WideShapes
set_option maxRecDepth 100000

theorem ordI_begin {D : Nat} {m : Nat → Nat} {kk : Int} (hm : ∀ k, m k ≤ 5) : OrdI 5 (qsF D m) ⟨List.replicate (2 + 2 * 20) 0, kk, [], []⟩ (hsF m) [] [] := by
  refine ⟨List.Pairwise.nil, fun j _ x _ y hy => (by cases hy), fun j _ => ?_, fun j _ x hx => ?_, fun j _ hj he => ?_, startD_l D, segs_zero, fun _ => ⟨fun _ => rfl, fun h => absurd rfl h⟩⟩
  · cases j with
    | zero => show (startD D).l.Pairwise _; rw [startD_l]; exact List.Pairwise.nil
    | succ j =>
      show (startP (upB (5 * j) (m j))).l.Pairwise _
      rw [startP_l]
      exact List.pairwise_map.2 (List.pairwise_lt_range.imp fun {a b} h => by show ((5 * j + a : Nat) : Int) < ((5 * j + b : Nat) : Int); omega)
  · cases j with
    | zero => have hx : x ∈ (startD D).l := hx; rw [startD_l] at hx; cases hx
    | succ j =>
      have hx : x ∈ (startP (upB (5 * j) (m j))).l := hx
      rw [startP_l] at hx
      have h1 := upB_mem.1 hx
      have h2 := hm j
      omega
  · cases j with
    | zero => exact absurd rfl hj
    | succ j =>
      have he : (startP (upB (5 * j) (m j))).l = [] := he
      rw [startP_l] at he
      show bEnded (startP (upB (5 * j) (m j))) = true
      rw [he]
      rfl
set_option maxHeartbeats 4000000 in
theorem order9 (az : Nat → Nat) (has : ∀ k, az k < 256) (dd : Nat) (hdd : dd < 256) (PA : Option Addr) (np pcp : Nat) (xs : List Int) (w : World) (hp : Row w .i64 PA np xs) :
    Calls Try.prog 10 #[.agg #[.int .u8 (az 0 : Nat), .int .u8 (az 1 : Nat), .int .u8 (az 2 : Nat), .int .u8 (az 3 : Nat)], .int .u8 dd, .slice PA np pcp] w fun e w' => e = .returned (.bool true) ∧ Below w.heap.size w w' := by
  by_cases h4 : 400 < np
  · have h4' : (400 : Int) < np := by omega
    go_enter Try.func10, Try.ntmps10
    go_wp2_with fail
    have b0 : Below w.heap.size w (w.alloc (.cells #[.int .u8 (az 0 : Nat), .int .u8 (az 1 : Nat), .int .u8 (az 2 : Nat), .int .u8 (az 3 : Nat)] 77)) := (Below.refl _ _).alloc (Nat.le_refl _) _
    refine (speaks9_any _).mono ?_
    rintro e w1 ⟨rfl, b1⟩
    go_wp2_with fail
    refine (speaks9_any _).mono ?_
    rintro e w2 ⟨rfl, b2⟩
    go_wp2
    go_ret
    exact ⟨rfl, (b0.trans (b1.mono b0.size)).trans (b2.mono (b0.trans (b1.mono b0.size)).size)⟩
  · have h4' : ¬ ((400 : Int) < np) := by omega
    · have hpi := hp
      obtain ⟨mz, hmz⟩ : ∃ mz : Nat → Nat, (fun k => az k % 6) = mz := ⟨_, rfl⟩
      have HMZ : Hid ((fun k => az k % 6) = mz ∧ ∀ k, mz k ≤ 5) := Lib.hid ⟨hmz, fun k => by rw [← hmz]; show az k % 6 ≤ 5; omega⟩
      clear hmz
      obtain ⟨D, hD⟩ : ∃ D, dd % 8 = D := ⟨_, rfl⟩
      have hmodd : ((dd : Int).tmod 8) = (D : Int) := by rw [← hD]; rw [Int.tmod_eq_emod_of_nonneg (by omega)]; omega
      have hwd : IntKind.i64.wrap (dd : Int) = dd := by rw [IntKind.wrap_i64]; omega
      have hwD : IntKind.i64.wrap (D : Int) = D := by rw [IntKind.wrap_i64]; omega
      have hwD1 : IntKind.i64.wrap (1 + (D : Int)) = 1 + D := by rw [IntKind.wrap_i64]; omega
      have HDm := Lib.hid (And.intro hmodd (And.intro hwd (And.intro hwD hwD1)))
      have hD10 : D < 8 := by omega
      clear hmodd hwd hwD hD hwD1
      go_enter Try.func10, Try.ntmps10
      obtain ⟨w0, hw0⟩ : ∃ w0, w.alloc (.cells #[.int .u8 (az 0 : Nat), .int .u8 (az 1 : Nat), .int .u8 (az 2 : Nat), .int .u8 (az 3 : Nat)] 77) = w0 := ⟨_, rfl⟩
      have k00 : Turns [] w w0 := by rw [← hw0]; exact (Turns.refl _ _).alloc _
      have la4 : Lies w0 w.heap.size 77 #[.int .u8 (az 0 : Nat), .int .u8 (az 1 : Nat), .int .u8 (az 2 : Nat), .int .u8 (az 3 : Nat)] := by rw [← hw0]; exact Lies.new _ _ _
      have b0 : Below w.heap.size w w0 := k00.below (by simp) (Nat.le_refl _)
      go_upto_region 1 with (fail)
      try rw [hw0]
      clear hw0 k00
      go_wp2_with fail
      refine (speaks9_any _).mono ?_
      rintro e w1 ⟨rfl, b1⟩
      have la4 := la4.below b1 la4.lt
      have b01 : Below w.heap.size w w1 := b0.trans (b1.mono b0.size)
      have lt4 : w.heap.size < w1.heap.size := la4.lt
      clear b0 b1
      go_wp2_with fail
      refine (show Calls Try.prog 28 #[.int .i64 20] _ _ from fresh9_any 20 (by omega) w1).mono ?_
      rintro e w2 ⟨p, c, bn, ba, rfl, ha, hb, hc, hp, hbn, hba, la, ln⟩
      have hmf := hmf_run
      have y2 := fun (a : Addr) (f : FuncId) (c : Array Value) (w : World) => run_store Try.prog w a (.func (.func f) #[] c) .plain rfl
      have la4 := la4.below hb la4.lt
      have hb1 := hb.size
      have z1 := ha.head.lt
      obtain ⟨h1, hh⟩ : ∃ h1, w2.heap.size = h1 := ⟨_, rfl⟩
      obtain ⟨W3, hW3⟩ : ∃ W3, (w2.alloc (.cells (bxC p 0 1 46 47 #[] #[ptr ba, ptr bn]) 62)).alloc (.cells #[.slice none 0 0, .slice none 0 0] 72) = W3 := ⟨_, rfl⟩
      have k3 : Turns [] w2 W3 := by rw [← hW3]; exact ((Turns.refl _ _).alloc _).alloc _
      have lb : Lies W3 h1 62 (bxC p 0 1 46 47 #[] #[ptr ba, ptr bn]) := by rw [← hW3, ← hh]; exact (Lies.new _ _ _).alloc _
      have lo : Lies W3 (h1 + 1) 72 #[.slice none 0 0, .slice none 0 0] := by rw [← hW3]; exact Lies.new_of _ _ (by simp [hh])
      have z3 : W3.heap.size = h1 + 1 + 1 := by rw [← hW3]; simp [hh]
      obtain ⟨hG, hI, hX, hR0⟩ := begin9 (W := W3) (B := w1.heap.size) (r := 3000) (ex := []) (ha.turn k3 (by simp) (by simp)) (by omega) (bok_zero 20) lo lb (la.turn k3 (by simp)) (ln.turn k3 (by simp)) (by omega) hc (by omega) (by omega) (by omega) (by simp) (by simp)
      have la4 := la4.turn k3 (by simp)
      have b3 : Below w1.heap.size w1 W3 := hb.trans (k3.below (by simp) hb1)
      obtain ⟨P, hP⟩ : ∃ P, (⟨p, c, w1.heap.size, 20, h1 + 1, []⟩ : BP) = P := ⟨_, rfl⟩
      have gp : P.n = 20 ∧ P.B = w1.heap.size ∧ P.ob = h1 + 1 ∧ P.p = p ∧ P.ex = [] := by rw [← hP]; exact ⟨rfl, rfl, rfl, rfl, rfl⟩
      rw [hP] at hG hI hX hR0
      obtain ⟨s0, hs0⟩ : ∃ s0, (⟨List.replicate (2 + 2 * 20) 0, 0, [], []⟩ : BSt) = s0 := ⟨_, rfl⟩
      have hI : BI P 3000 s0 W3 := by rw [← hs0]; exact hI
      have hM := bm_ok P hG
      have hA : bxP P #[ptr ba, ptr bn] = bxV p 0 1 46 47 #[] #[ptr ba, ptr bn] := by rw [← gp.2.2.2.1]
      have hDr : (BM P).Makes 3000 (startD (1 + D)) 31 #[bxP P #[ptr ba, ptr bn], .int .i64 ((1 + D : Nat) : Int), ptr (h1 + 1)] W3 := by
        have := drains_g P hG (dcap := #[ptr ba, ptr bn]) 3000 (1 + D) (by omega) W3 (hM.okw _ _ _ hI)
        rw [gp.2.2.1] at this
        exact this
      rw [hA] at hDr
      have eD : ((1 + D : Nat) : Int) = 1 + (D : Int) := by omega
      rw [eD] at hDr
      obtain ⟨c0, c1, c2, c3, c4, c5, c6⟩ := hX.cells
      rw [gp.2.2.2.1] at c0 c4
      have HI := Lib.hid (And.intro hI (And.intro hX (And.intro gp hR0)))
      have HS0 := Lib.hid hs0
      have HA := Lib.hid hA
      obtain ⟨hmodd, hwd, hwD, hwD1⟩ := HDm.out
      clear hI hX ha la ln lb lo hP hs0 hA gp hR0 k3 hb eD
      unfold Gm.Makes at hDr
      go_upto_region 7 with (fail)
      try rw [hh]
      try rw [hW3]
      clear hW3
      go_wp2_with fail
      refine (show Calls Try.prog 31 #[bxV p 0 1 46 47 #[] #[ptr ba, ptr bn], .int .i64 (1 + (D : Int)), ptr (h1 + 1)] _ _ from hDr).mono ?_
      rintro e w4 ⟨v0, rfl, hc0, t4⟩
      clear c0 c1 c2 c3 c4 c5 c6 hmodd hwd hwD hwD1 y2 hmf hDr
      have hn := newtask_any v0 hc0.is w4
      go_wp2_with fail
      refine hn.mono ?_
      rintro e w5 ⟨rfl, hw5⟩
      obtain ⟨hI, hX, gp, hR0⟩ := HI.out
      have hI4 := hI.turns t4 (by simp)
      have hT1 := Tk9.first hG hI4 hc0
      rw [hw5] at hT1
      have k45 : Turns [] w4 w5 := by rw [← hw5]; exact (Turns.refl _ _).alloc _
      have z5 : w5.heap.size = w4.heap.size + 1 := by rw [← hw5]; simp
      obtain ⟨W6, hW6⟩ : ∃ W6, w5.alloc (.cells #[ptr w4.heap.size] 35) = W6 := ⟨_, rfl⟩
      have k56 : Turns [] w5 W6 := by rw [← hW6]; exact (Turns.refl _ _).alloc _
      have t36 := (t4.trans k45).trans k56
      rw [hW6] at hT1
      have la4 := la4.turn t36 (by simp)
      have bP3 : P.B ≤ W3.heap.size := (hM.okw _ _ _ hI).base
      have hS : Mk9 w1 P h1 ba bn (1 + D) mz s0 0 (.slice (some ⟨w4.heap.size + 1, 0, none⟩) 1 1) W6 := by
        refine ⟨⟨_, Tk9.congr hT1 (fun k hk => by obtain rfl : k = 0 := (by omega); rfl)⟩, hI.turns t36 (by simp), hX.turns hG hI t36 (by simp) (by simp), (b3.mono (by rw [gp.2.1]; exact Nat.le_refl _)).trans (t36.below (by simp) bP3), fun b q => hR0 b (BI.rows_turns hG hI t36 (by simp) q)⟩
      clear hn hw5 hc0 hI hX hR0 hI4 hT1 k45 t4 k56 t36 b3 z1 bP3 hM
      obtain ⟨g5, hg5⟩ : ∃ g5, w4.heap.size + 1 = g5 := ⟨_, rfl⟩
      rw [hg5] at hS
      have HP := Lib.hid gp
      clear gp
      go_upto_region 8 with (fail)
      try rw [hg5]
      try rw [hW6]
      clear hW6 hg5 z5
      obtain ⟨q0, q1, q2, q3⟩ : W6.cell? ⟨w.heap.size, 0, none⟩ = some (.int .u8 (az 0 : Nat)) ∧ W6.cell? ⟨w.heap.size, 1, none⟩ = some (.int .u8 (az 1 : Nat)) ∧ W6.cell? ⟨w.heap.size, 2, none⟩ = some (.int .u8 (az 2 : Nat)) ∧ W6.cell? ⟨w.heap.size, 3, none⟩ = some (.int .u8 (az 3 : Nat)) := ⟨la4.cell 0, la4.cell 1, la4.cell 2, la4.cell 3⟩
      clear la4
      go_wp2_with fail
      clear q0 q1 q2 q3
      go_loopw [10, 11, 12, 13, 14, 47] (fun tv _ _ _ _ i W => ∃ t : Nat, i = .int .i64 (t : Int) ∧ t ≤ 4 ∧ Mk9 w1 P h1 ba bn (1 + D) mz s0 t tv W) (fun _ _ _ _ _ i _ => 4 - (intOf i).toNat)
      case atStart => exact ⟨0, rfl, by omega, hS⟩
      case round =>
        clear hS
        obtain ⟨t, rfl, ht, hS⟩ := hrel
        generalize wr = W at *
        generalize u10 = tv at *
        by_cases ht4 : t < 4
        · have hidx := index_four az t ht4
          have ht4' : (t : Int) < 4 := by omega
          obtain ⟨mm, hmm⟩ : ∃ mm, az t % 6 = mm := ⟨_, rfl⟩
          have hat := has t
          have hmod6 : (((az t : Nat) : Int).tmod 6) = (mm : Int) := by rw [← hmm]; rw [Int.tmod_eq_emod_of_nonneg (by omega)]; omega
          have hwa : IntKind.i64.wrap ((az t : Nat) : Int) = (az t : Nat) := by rw [IntKind.wrap_i64]; omega
          have hwm : IntKind.i64.wrap (mm : Int) = mm := by rw [IntKind.wrap_i64]; omega
          have hw5t : IntKind.i64.wrap (5 * (t : Int)) = 5 * t := by rw [IntKind.wrap_i64]; omega
          have hm5 : mm < 6 := by omega
          have HMM : Hid (mz t = mm) := Lib.hid (by rw [← HMZ.out.1]; exact hmm)
          clear hmm
          have hO : Out W (.slice none 0 0) (upB (5 * t) 0) W := ⟨IRow.nil _ _, Below.refl _ _⟩
          generalize az t = at' at *
          go_wp2_with fail
          clear hmod6 hidx hat hwa
          go_loopw [13, 14, 54] (fun v _ k X => ∃ q : Nat, k = .int .i64 (q : Int) ∧ q ≤ mm ∧ Out W v (upB (5 * t) q) X) (fun _ _ k _ => mm - (intOf k).toNat)
          case atStart => exact ⟨0, rfl, Nat.zero_le _, hO⟩
          case round =>
            clear hO
            obtain ⟨q, rfl, hq, hO⟩ := hrel
            generalize wr = X at *
            generalize u13 = mv at *
            by_cases hqm : q < mm
            · have hl := upB_length (5 * t) q
              have F := fun v' w' (h : Out W v' (upB (5 * t) q ++ [(5 * (t : Int) + q : Int)]) w') => (show Out W v' (upB (5 * t) (q + 1)) w' from by rw [upB_succ]; exact h)
              have HF := Lib.hid F
              clear F
              have hwq : IntKind.i64.wrap (5 * (t : Int) + q) = 5 * t + q := by rw [IntKind.wrap_i64]; omega
              generalize upB (5 * t) q = ys at *
              go_wp2_with (first | (at_builtin; refine wpList_out hO (n := (5 * (t : Int) + q : Int)) (WalkArith.wf_i64 (by omega)) (by omega) (by rfl) (.tmp 57) (.tmp 62) rfl rfl rfl ?_; intro v3 w3 hO3) | fail)
              go_roundw
              case rel => exact ⟨q + 1, by go_num, by omega, HF.out _ _ hO3⟩
              case measure => simp [intOf]; omega
            · obtain rfl : q = mm := by omega
              have tX : Turns [] W X := Turns.of_below hO.be (Nat.le_refl _)
              have hm6 := HMZ.out.2
              have hmmt : mz t = q := HMM.out
              have gp := HP.out
              have hpu := hS.puts hG gp.1 gp.2.2.2.2 ht4 hm6 tX (v := mv) (B := W.heap.size) (by rw [hmmt]; exact hO.row)
              rw [hmmt] at hpu
              obtain ⟨A1, cp1, hmv, hle1, hMk⟩ := hpu
              subst hmv
              have hctx := hS.ctx.turns hG hS.si tX (by simp) (by simp)
              obtain ⟨c0, c1, c2, c3, c4, c5, c6⟩ := hctx.cells
              rw [gp.2.2.2.1] at c0 c4
              rw [HA.out] at hMk
              obtain ⟨ts, hts⟩ := hS.at_
              have htv := hts.tv.turns tX (by simp)
              have HS := Lib.hid (And.intro hS (And.intro hts hmmt))
              clear hS hts hctx hO hm6 hmmt gp
              unfold Gm.Makes at hMk
              have hMk := hMk X (Turns.refl _ _)
              go_wp2_with fail
              refine (show Calls Try.prog 30 #[bxV p 0 1 46 47 #[] #[ptr ba, ptr bn], .slice A1 q cp1, .nilFunc] _ _ from hMk).mono ?_
              rintro e w7 ⟨cv, rfl, hcv, t7⟩
              clear c0 c1 c2 c3 c4 c5 c6 hMk
              have hn := newtask_any cv hcv.is w7
              go_wp2_with fail
              refine hn.mono ?_
              rintro e w8 ⟨rfl, hw8⟩
              obtain ⟨hS, hts, hmmt⟩ := HS.out
              have k78 : Turns [] w7 w8 := by rw [← hw8]; exact (Turns.refl _ _).alloc _
              have t8 : Turns [] W w7 := tX.trans t7
              have htv8 := (hts.tv.turns t8 (by simp)).turns k78 (by simp)
              have F := Lib.hid (fun tv' W4 (r1 : VRow W4 P.B 35 tv' ((List.range (t + 1)).map (fun k => ptr (ts k)) ++ [ptr w7.heap.size])) (r2 : Turns tv.ownBlock.toList w8 W4) => Mk9.next (tv' := tv') (W4 := W4) (cv := cv) hG hS t8 (by rw [hmmt]; exact hcv) hts r1 (by rw [hw8]; exact r2))
              have hvl : ((List.range (t + 1)).map fun i => ptr (ts i)).length = t + 1 := by simp
              have HVL := Lib.hid hvl
              have hB8 : P.B ≤ w8.heap.size := by
                have h1 := ((bm_ok P hG).okw _ _ _ hS.si).base
                have h2 := t8.size
                have h3 := k78.size
                have h1 : P.B ≤ W.heap.size := h1
                omega
              clear hS hts hn hw8 hvl hcv htv t7 k78 tX hmmt
              generalize hvals : ((List.range (t + 1)).map fun i => ptr (ts i)) = vals at *
              clear hvals
              go_wp2_with (first | (at_builtin; refine wpList_vrow (T := 48) (E := 35) (z := .pointer none) (u := ptr w7.heap.size) (nb := 8) Try.underlying48 (by kernel_rfl) (by omega) rfl rfl htv8 hB8 (by rw [HVL.out]; omega) (by rfl) (.tmp 65) (.tmp 70) rfl rfl rfl ?_; intro tv' W9 r1 r2) | fail)
              go_roundw
              case rel => exact ⟨t + 1, by go_num, by omega, F.out _ _ r1 r2⟩
              case measure => simp [intOf]; omega
        · obtain rfl : t = 4 := by omega
          obtain ⟨ts, hts⟩ := hS.at_
          have gp := HP.out
          have hM := bm_ok P hG
          obtain ⟨TA, tcp, htv, hTR⟩ := hts.trow hS.si (by omega)
          subst htv
          have hgb0 := gbF (D := 1 + D) (m := mz) HMZ.out.2 0 4 (Nat.le_refl _)
          rw [HS0.out] at hgb0
          have hlen := hpi.len
          have bW : Below w.heap.size w W := b01.trans (hS.be.mono (by rw [gp.2.1]; omega))
          have hRX : (BM P).RowX W 5 ts PA np xs := ⟨hpi.keep (Nat.le_refl _) bW, fun hn a e => by
            obtain ⟨a', e', hb', _⟩ := hpi.at_ hn
            rw [e] at e'
            injection e' with e'
            subst e'
            have hlt : a.block < P.B := by rw [gp.2.1]; omega
            refine ⟨fun hm => (List.mem_append.1 hm).elim (fun q => ?_) (fun q => ?_), fun q => ?_⟩
            · obtain ⟨i, hi, e⟩ := tsL_mem.1 q
              have h9 : P.B ≤ ts i := (hts.tk i hi).base
              omega
            · have h9 := hM.low _ q
              have h9 : P.B ≤ a.block := h9
              omega
            · have := (hS.si.rw q).1
              omega⟩
          have hall0 := hts.all hS.si
          have hI0 : OrdI 5 (qsF (1 + D) mz) s0 (hsF mz) [] [] ∧ FewD (qsF (1 + D) mz) s0 (hsF mz) [] [] := by
            rw [← HS0.out]
            exact ⟨ordI_begin HMZ.out.2, qsF_few (by omega)⟩
          have hKK : ∀ j, j < 5 → Keeps 20 5 (allF mz 4) j (fun q s hs bx fs => OrdI 5 q s hs bx fs ∧ FewD q s hs bx fs) := fun j hj => keeps_and (ordI_keeps hj) (fewD_keeps 20 5 _ j)
          have hrun := run_g (M := BM P) (f := 3000) hM TA PA 5 tcp np pcp ts xs ⟨s0, qsF (1 + D) mz, fun _ => 0, 0⟩ W hTR hRX hall0 (by omega) rfl (fun m hm i hi _ _ => by
            obtain ⟨_, _, _, g, _⟩ := Gb.picks (P := P) gp.1 (by omega) (fun j _ => keeps_true 20 5 _ j) (c := ⟨s0, qsF (1 + D) mz, fun _ => 0, 0⟩) hgb0 trivial xs m (by omega) (by omega)
            exact g.w (by omega) hi) (fun i hi => by show 0 + np < _; omega)
          obtain ⟨hs1, bx1, fs1, hgb1, hI1⟩ := Gb.picks (P := P) gp.1 (by omega) hKK (c := ⟨s0, qsF (1 + D) mz, fun _ => 0, 0⟩) hgb0 hI0 xs np (by omega) (by omega)
          have hdp := fun i => picks_d (M := BM P) (N := 5) ⟨s0, qsF (1 + D) mz, fun _ => 0, 0⟩ xs i np (by omega)
          have hSF : ∀ W2, (BM P).RunAt 3000 5 ts ⟨s0, qsF (1 + D) mz, fun _ => 0, 0⟩ xs W np W2 → Fn9 w1 P h1 ba bn (allF mz 4) (OrdI 5) ts (.slice TA 5 tcp) (fun i => 5 - 0 ≤ i) 0 W2 := fun W2 hra =>
            ⟨⟨_, 0 + np, hs1, bx1, fs1, hra.all.down hM (by omega), hgb1, hI1, by omega, fun i hi5 h5 => by omega, fun i _ => by have := hdp i; have h0 : (⟨s0, qsF (1 + D) mz, fun _ => 0, 0⟩ : Cfg BSt BPr).d i = 0 := rfl; omega⟩, hts.inj, hts.tv.frTasks hS.si (All.lies hall0) hra.fr (by decide) (by decide) (by decide) (by decide) (by decide), hS.ctx.mv hra.mo, hS.be.trans (All.low hG hall0 hra.fr)⟩
          have HSF := Lib.hid hSF
          clear hS hts hTR hgb0 hRX hall0 hI0 hgb1 hI1 hdp hSF bW
          generalize (⟨s0, qsF (1 + D) mz, fun _ => 0, 0⟩ : Cfg BSt BPr) = cf at *
          go_wp2_with fail
          refine (show Calls Try.prog 24 #[.slice TA 5 tcp, .slice PA np pcp] _ _ from hrun).mono ?_
          rintro e W2 ⟨rfl, hra⟩
          have hF := HSF.out _ hra
          clear hra hrun HSF
          have HK5 : Hid (∀ j, j < 5 → Keeps 20 5 (allF mz 4) j (OrdI 5)) := Lib.hid fun j hj => ordI_keeps hj
          have HAL : Hid ((allF mz 4).length ≤ 20) := Lib.hid (by have := allF_len HMZ.out.2 4; omega)
          clear hKK
          generalize ((BM P).picks 5 cf xs np).n = rn at *
          go_wp2_with fail
          go_loopw [15, 78] (fun _ i W => ∃ k : Nat, i = .int .i64 (k : Int) ∧ k ≤ 5 ∧ Fn9 w1 P h1 ba bn (allF mz 4) (OrdI 5) ts (.slice TA 5 tcp) (fun i => 5 - k ≤ i) k W) (fun _ i _ => 5 - (intOf i).toNat)
          case atStart => exact ⟨0, rfl, by omega, hF⟩
          case round =>
            clear hF
            obtain ⟨k, rfl, hk, hF⟩ := hrel
            generalize wr = Y at *
            by_cases hk5 : k < 5
            · obtain ⟨j, hj⟩ : ∃ j, 4 - k = j := ⟨_, rfl⟩
              have hw4 : IntKind.i64.wrap (4 - (k : Int)) = (j : Int) := by rw [IntKind.wrap_i64]; omega
              have hj5 : j < 5 := by omega
              have hk5' : (k : Int) < 5 := by omega
              obtain ⟨_, g, hTA, hcells⟩ := hF.cell rfl
              have hcell := hcells j hj5
              have hfin := hF.next (S' := fun i => 5 - (k + 1) ≤ i) hG HP.out.1 HAL.out HK5.out hk5 hj5 (fun i hi => by omega)
              subst hTA
              clear hF hcells
              go_wp2_with fail
              refine (show Calls Try.prog 18 #[ptr (ts j), .int .i64 3000] _ _ from hfin).mono ?_
              rintro e W2' ⟨rfl, hs⟩
              go_wp2
              go_roundw
              case rel => exact ⟨k + 1, by go_num, by omega, hs⟩
              case measure => simp [intOf]; omega
            · obtain rfl : k = 5 := by omega
              obtain ⟨c, T, hs, b, fs, hall, hgb, ⟨hord, _⟩, _, hdone, _⟩ := hF.at_
              have hseg := hord.seg
              have h0 := hgb.wk 0 (by omega)
              unfold WkB at h0
              rw [hdone 0 (by omega) (by omega)] at h0
              rw [h0.1] at hseg
              have hgl : c.s.got.length ≤ 20 := Nat.le_trans (count_len c.s.got fun a => by have := hgb.cnt a; omega) HAL.out
              have hgr : ∀ i, i < c.s.got.length → 0 ≤ c.s.got.getD i 0 ∧ c.s.got.getD i 0 < 20 := fun i hi => hgb.rng _ (by
                have h1 : c.s.got.getD i 0 ∈ c.s.got := by rw [getD_get hi]; exact List.getElem_mem hi
                have h2 := count_mem.1 h1
                have h3 := hgb.cnt (c.s.got.getD i 0)
                exact count_mem.2 (by omega))
              obtain ⟨v, u, hl, hv, hu, _⟩ := hall.inv.ow
              have hig := hall.inv.hg
              have hie := hall.inv.he
              have hrg : IRow Y P.B v c.s.got := ⟨hv, fun x hx => by have := hig x hx; unfold Ix at this; exact WalkArith.wf_i64 (by omega)⟩
              have hre : IRow Y P.B u c.s.ends := ⟨hu, fun x hx => by have := hie x hx; unfold Ix at this; exact WalkArith.wf_i64 (by omega)⟩
              have hel := hall.inv.size.2
              obtain ⟨Ag, cg, hvv, hrowg⟩ := hrg.row
              obtain ⟨Ae, ce, huu, hrowe⟩ := hre.row
              subst hvv
              subst huu
              rw [HP.out.2.2.1] at hl
              have hbe := hF.be
              clear hF hall hgb hord hdone h0 hig hie hrg hre hv hu
              generalize hgot : c.s.got = got at *
              generalize hends : c.s.ends = ends at *
              clear hgot hends
              have c8 : ∀ Z, Turns [] Y Z → Z.cell? ⟨h1 + 1, 0, none⟩ = some (.slice Ag got.length cg) := fun Z t => (hl.turn t (by simp)).cell 0
              have c9 : Y.cell? ⟨h1 + 1, 1, none⟩ = some (.slice Ae ends.length ce) := hl.cell 1
              have C8 := Lib.hid c8
              have cE : ∀ Z, Turns [] Y Z → 0 < ends.length → ∃ a, Ae = some a ∧ a.block < Z.heap.size ∧ ∀ i, i < ends.length → Z.cell? (a.add i) = some (.int .i64 (ends.getD i 0)) := fun Z t hn => (hrowe.keep (Nat.le_refl _) (t.below (B := Y.heap.size) (by simp) (Nat.le_refl _))).at_ hn
              have cG : ∀ Z, Turns [] Y Z → 0 < got.length → ∃ a, Ag = some a ∧ a.block < Z.heap.size ∧ ∀ i, i < got.length → Z.cell? (a.add i) = some (.int .i64 (got.getD i 0)) := fun Z t hn => (hrowg.keep (Nat.le_refl _) (t.below (B := Y.heap.size) (by simp) (Nat.le_refl _))).at_ hn
              have CE := Lib.hid cE
              have CG := Lib.hid cG
              have HGR := Lib.hid hgr
              have HBE := Lib.hid hbe
              clear c8 cE cG hrowe hrowg hl hgr hbe
              have hst : ∃ f : Nat, (.int .i64 0 : Value) = .int .i64 (f : Int) ∧ f ≤ got.length ∧ SegsF got f (ends.drop 0) [] ∧ Turns [] Y Y := ⟨0, rfl, Nat.zero_le _, hseg, Turns.refl _ _⟩
              have HST := Lib.hid hst
              clear hseg hst
              go_wp2_with fail
              clear c9
              go_loopw [16, 18, 19, 20, 97] (fun fr _ _ _ i Z => ∃ e : Nat, i = .int .i64 (e : Int) ∧ e ≤ ends.length ∧ ∃ f : Nat, fr = .int .i64 (f : Int) ∧ f ≤ got.length ∧ SegsF got f (ends.drop e) [] ∧ Turns [] Y Z) (fun _ _ _ _ i _ => ends.length - (intOf i).toNat)
              case atStart => exact ⟨0, rfl, Nat.zero_le _, HST.out⟩
              case round =>
                obtain ⟨e, rfl, he, f, rfl, hf, hsg, tZ⟩ := hrel
                generalize wr = Z at *
                by_cases hel2 : e < ends.length
                · obtain ⟨a, rfl, hab, hcells⟩ := CE.out Z tZ (by omega)
                  have hcell := hcells e hel2
                  have hel2' : (e : Int) < ends.length := by omega
                  have hdr : ends.drop e = ends.getD e 0 :: ends.drop (e + 1) := by
                    rw [getD_get hel2]
                    exact List.drop_eq_getElem_cons hel2
                  rw [hdr] at hsg
                  obtain ⟨g0, g1, g2, g3, g4⟩ := hsg
                  obtain ⟨E, hE⟩ := Int.eq_ofNat_of_zero_le g0
                  rw [hE] at g1 g2 g3 g4 hcell
                  have eE : ((E : Int)).toNat = E := by omega
                  rw [eE] at g1 g2 g3 g4
                  have HG4 := Lib.hid g4
                  have hR : ∀ i k, f ≤ k → k < i → i < E → ¬ (got.getD k 0 / 5 = got.getD i 0 / 5 ∧ got.getD k 0 < got.getD i 0) := fun i k h1 h2 h3 h4 => by
                    have hlen2 : ((got.take E).drop f).length = E - f := by rw [List.length_drop, List.length_take]; omega
                    have h5 := List.pairwise_iff_getElem.1 g3 (k - f) (i - f) (by omega) (by omega) (by omega)
                    have ek : ((got.take E).drop f)[k - f]'(by omega) = got.getD k 0 := by
                      rw [List.getElem_drop, List.getElem_take, getD_get (by omega)]
                      congr 1
                      omega
                    have ei : ((got.take E).drop f)[i - f]'(by omega) = got.getD i 0 := by
                      rw [List.getElem_drop, List.getElem_take, getD_get (by omega)]
                      congr 1
                      omega
                    rw [ek, ei] at h5
                    have := h5 h4.1
                    omega
                  have HR := Lib.hid hR
                  clear hcells hdr g3 g4 hR eE hE g0
                  go_wp2_with fail
                  go_loopw [19, 20] (fun iv _ Z2 => ∃ i : Nat, iv = .int .i64 (i : Int) ∧ f ≤ i ∧ i ≤ E ∧ Turns [] Y Z2) (fun iv _ _ => E - (intOf iv).toNat)
                  case atStart => exact ⟨f, rfl, Nat.le_refl _, g1, tZ⟩
                  case round =>
                    obtain ⟨i, rfl, hfi, hiE, tZ2⟩ := hrel
                    generalize wr = Z2 at *
                    by_cases hiE2 : i < E
                    · have hiE2' : (i : Int) < E := by omega
                      have hwi : IntKind.i64.wrap ((i : Int) + 1) = i + 1 := by rw [IntKind.wrap_i64]; omega
                      go_wp2_with fail
                      go_loopw [20] (fun kv Z3 => ∃ k : Nat, kv = .int .i64 (k : Int) ∧ f ≤ k ∧ k ≤ i ∧ Turns [] Y Z3) (fun kv _ => i - (intOf kv).toNat)
                      case atStart => exact ⟨f, rfl, Nat.le_refl _, hfi, tZ2⟩
                      case round =>
                        obtain ⟨k, rfl, hfk, hki, tZ3⟩ := hrel
                        generalize wr = Z3 at *
                        by_cases hki2 : k < i
                        · have hki2' : (k : Int) < i := by omega
                          have hwk : IntKind.i64.wrap ((k : Int) + 1) = k + 1 := by rw [IntKind.wrap_i64]; omega
                          have d8 := C8.out Z3 tZ3
                          obtain ⟨a2, rfl, hab2, hcg⟩ := CG.out Z3 tZ3 (by omega)
                          have dk := hcg k (by omega)
                          have di := hcg i (by omega)
                          have rk1 := HGR.out k (by omega)
                          have ri1 := HGR.out i (by omega)
                          have hno := HR.out i k hfk hki2 hiE2
                          have F : Turns [] Y Z3.drew := tZ3.drew
                          have hkl : (k : Int) < got.length := by omega
                          have hil : (i : Int) < got.length := by omega
                          clear hcg
                          generalize got.getD k 0 = x at *
                          generalize got.getD i 0 = y at *
                          have hx5 : x.tdiv 5 = x / 5 := Int.tdiv_eq_ediv_of_nonneg rk1.1
                          have hy5 : y.tdiv 5 = y / 5 := Int.tdiv_eq_ediv_of_nonneg ri1.1
                          have hwx : IntKind.i64.wrap (x / 5) = x / 5 := by rw [IntKind.wrap_i64]; omega
                          have hwy : IntKind.i64.wrap (y / 5) = y / 5 := by rw [IntKind.wrap_i64]; omega
                          have hS3 : Z3.drew.cell? ⟨h1 + 1, 0, none⟩ = some (.slice (some a2) got.length cg) ∧ Z3.drew.cell? (a2.add k) = some (.int .i64 x) ∧ Z3.drew.cell? (a2.add i) = some (.int .i64 y) := ⟨d8, dk, di⟩
                          generalize x / 5 = qx at *
                          generalize y / 5 = qy at *
                          clear d8 dk di rk1 ri1
                          go_upto_region 36 with (fail)
                          by_cases heq : qx = qy
                          · have hnl : decide (x < y) = false := decide_eq_false fun h => hno ⟨heq, h⟩
                            have hbe : (qx == qy) = true := by simp [heq]
                            clear hno heq
                            refine wp_region_held_drew (S := fun W' => W'.cell? ⟨h1 + 1, 0, none⟩ = some (.slice (some a2) got.length cg) ∧ W'.cell? (a2.add k) = some (.int .i64 x) ∧ W'.cell? (a2.add i) = some (.int .i64 y)) (by kernel_rfl) hS3 (fun hHeld => ?_)
                            refine wpAnyH_take (i := 0) (oi := { dst := some 113, op := Go.Op.move (Go.Operand.tmp 9), type := 70, pos := "law.go:247", after := #[], guard := none }) (v := ?_) rfl (by kernel_rfl) (by kernel_rfl) (by kernel_rfl) (fun _ _ _ h => h) (Or.inl ⟨by rfl, ?_⟩) hHeld ?_
                            rotate_left
                            · intro w hSw; obtain ⟨hS0, hS1, hS2⟩ := hSw; go_simp; try with_reducible rfl
                            rotate_left
                            try simp only [Act.put, List.setIfInBounds_toArray, List.set_cons_zero, List.set_cons_succ]
                            refine wpAnyH_take (i := 1) (oi := { dst := some 114, op := Go.Op.nilCheck (Go.Operand.tmp 113), type := 0, pos := "law.go:247", after := #[{ on := 0, ground := Go.Ground.data }], guard := none }) (v := ?_) rfl (by kernel_rfl) (by kernel_rfl) (by kernel_rfl) (fun _ _ _ h => h) (Or.inl ⟨by rfl, ?_⟩) hHeld ?_
                            rotate_left
                            · intro w hSw; obtain ⟨hS0, hS1, hS2⟩ := hSw; go_simp; try with_reducible rfl
                            rotate_left
                            try simp only [Act.put, List.setIfInBounds_toArray, List.set_cons_zero, List.set_cons_succ]
                            refine wpAnyH_take (i := 2) (oi := { dst := some 115, op := Go.Op.fieldAddr 72 (Go.Operand.tmp 114) 0, type := 0, pos := "law.go:247", after := #[{ on := 1, ground := Go.Ground.data }], guard := none }) (v := ?_) rfl (by kernel_rfl) (by kernel_rfl) (by kernel_rfl) (fun _ _ _ h => h) (Or.inl ⟨by rfl, ?_⟩) hHeld ?_
                            rotate_left
                            · intro w hSw; obtain ⟨hS0, hS1, hS2⟩ := hSw; go_simp; try with_reducible rfl
                            rotate_left
                            try simp only [Act.put, List.setIfInBounds_toArray, List.set_cons_zero, List.set_cons_succ]
                            refine wpAnyH_take (i := 3) (oi := { dst := some 116, op := Go.Op.load 31 (Go.Operand.tmp 115), type := 31, pos := "law.go:247", after := #[{ on := 2, ground := Go.Ground.data }], guard := none }) (v := ?_) rfl (by kernel_rfl) (by kernel_rfl) (by kernel_rfl) (fun _ _ _ h => h) (Or.inl ⟨by rfl, ?_⟩) hHeld ?_
                            rotate_left
                            · intro w hSw; obtain ⟨hS0, hS1, hS2⟩ := hSw; go_simp; try with_reducible rfl
                            rotate_left
                            try simp only [Act.put, List.setIfInBounds_toArray, List.set_cons_zero, List.set_cons_succ]
                            refine wpAnyH_take (i := 4) (oi := { dst := some 117, op := Go.Op.move (Go.Operand.tmp 20), type := 3, pos := "law.go:247", after := #[], guard := none }) (v := ?_) rfl (by kernel_rfl) (by kernel_rfl) (by kernel_rfl) (fun _ _ _ h => h) (Or.inl ⟨by rfl, ?_⟩) hHeld ?_
                            rotate_left
                            · intro w hSw; obtain ⟨hS0, hS1, hS2⟩ := hSw; go_simp; try with_reducible rfl
                            rotate_left
                            try simp only [Act.put, List.setIfInBounds_toArray, List.set_cons_zero, List.set_cons_succ]
                            refine wpAnyH_take (i := 5) (oi := { dst := some 118, op := Go.Op.indexAddr 31 (Go.Operand.tmp 116) (Go.Operand.tmp 117), type := 0, pos := "law.go:247", after := #[{ on := 3, ground := Go.Ground.data }, { on := 4, ground := Go.Ground.data }], guard := none }) (v := ?_) rfl (by kernel_rfl) (by kernel_rfl) (by kernel_rfl) (fun _ _ _ h => h) (Or.inl ⟨by rfl, ?_⟩) hHeld ?_
                            rotate_left
                            · intro w hSw; obtain ⟨hS0, hS1, hS2⟩ := hSw; go_simp; try with_reducible rfl
                            rotate_left
                            try simp only [Act.put, List.setIfInBounds_toArray, List.set_cons_zero, List.set_cons_succ]
                            refine wpAnyH_take (i := 6) (oi := { dst := some 119, op := Go.Op.load 3 (Go.Operand.tmp 118), type := 3, pos := "law.go:247", after := #[{ on := 5, ground := Go.Ground.data }], guard := none }) (v := ?_) rfl (by kernel_rfl) (by kernel_rfl) (by kernel_rfl) (fun _ _ _ h => h) (Or.inl ⟨by rfl, ?_⟩) hHeld ?_
                            rotate_left
                            · intro w hSw; obtain ⟨hS0, hS1, hS2⟩ := hSw; go_simp; try with_reducible rfl
                            rotate_left
                            try simp only [Act.put, List.setIfInBounds_toArray, List.set_cons_zero, List.set_cons_succ]
                            refine wpAnyH_take (i := 7) (oi := { dst := some 120, op := Go.Op.binOp Go.BinOp.quo 3 (Go.Operand.tmp 119) (Go.Operand.const (Go.Value.int Go.IntKind.i64 5)) 3, type := 3, pos := "law.go:247", after := #[{ on := 6, ground := Go.Ground.data }], guard := none }) (v := ?_) rfl (by kernel_rfl) (by kernel_rfl) (by kernel_rfl) (fun _ _ _ h => h) (Or.inl ⟨by rfl, ?_⟩) hHeld ?_
                            rotate_left
                            · intro w hSw; obtain ⟨hS0, hS1, hS2⟩ := hSw; go_simp; try with_reducible rfl
                            rotate_left
                            try simp only [Act.put, List.setIfInBounds_toArray, List.set_cons_zero, List.set_cons_succ]
                            refine wpAnyH_take (i := 8) (oi := { dst := some 121, op := Go.Op.move (Go.Operand.tmp 9), type := 70, pos := "law.go:247", after := #[], guard := none }) (v := ?_) rfl (by kernel_rfl) (by kernel_rfl) (by kernel_rfl) (fun _ _ _ h => h) (Or.inl ⟨by rfl, ?_⟩) hHeld ?_
                            rotate_left
                            · intro w hSw; obtain ⟨hS0, hS1, hS2⟩ := hSw; go_simp; try with_reducible rfl
                            rotate_left
                            try simp only [Act.put, List.setIfInBounds_toArray, List.set_cons_zero, List.set_cons_succ]
                            refine wpAnyH_take (i := 9) (oi := { dst := some 122, op := Go.Op.nilCheck (Go.Operand.tmp 121), type := 0, pos := "law.go:247", after := #[{ on := 8, ground := Go.Ground.data }], guard := none }) (v := ?_) rfl (by kernel_rfl) (by kernel_rfl) (by kernel_rfl) (fun _ _ _ h => h) (Or.inl ⟨by rfl, ?_⟩) hHeld ?_
                            rotate_left
                            · intro w hSw; obtain ⟨hS0, hS1, hS2⟩ := hSw; go_simp; try with_reducible rfl
                            rotate_left
                            try simp only [Act.put, List.setIfInBounds_toArray, List.set_cons_zero, List.set_cons_succ]
                            refine wpAnyH_take (i := 10) (oi := { dst := some 123, op := Go.Op.fieldAddr 72 (Go.Operand.tmp 122) 0, type := 0, pos := "law.go:247", after := #[{ on := 9, ground := Go.Ground.data }], guard := none }) (v := ?_) rfl (by kernel_rfl) (by kernel_rfl) (by kernel_rfl) (fun _ _ _ h => h) (Or.inl ⟨by rfl, ?_⟩) hHeld ?_
                            rotate_left
                            · intro w hSw; obtain ⟨hS0, hS1, hS2⟩ := hSw; go_simp; try with_reducible rfl
                            rotate_left
                            try simp only [Act.put, List.setIfInBounds_toArray, List.set_cons_zero, List.set_cons_succ]
                            refine wpAnyH_take (i := 11) (oi := { dst := some 124, op := Go.Op.load 31 (Go.Operand.tmp 123), type := 31, pos := "law.go:247", after := #[{ on := 10, ground := Go.Ground.data }], guard := none }) (v := ?_) rfl (by kernel_rfl) (by kernel_rfl) (by kernel_rfl) (fun _ _ _ h => h) (Or.inl ⟨by rfl, ?_⟩) hHeld ?_
                            rotate_left
                            · intro w hSw; obtain ⟨hS0, hS1, hS2⟩ := hSw; go_simp; try with_reducible rfl
                            rotate_left
                            try simp only [Act.put, List.setIfInBounds_toArray, List.set_cons_zero, List.set_cons_succ]
                            refine wpAnyH_take (i := 12) (oi := { dst := some 125, op := Go.Op.move (Go.Operand.tmp 19), type := 3, pos := "law.go:247", after := #[], guard := none }) (v := ?_) rfl (by kernel_rfl) (by kernel_rfl) (by kernel_rfl) (fun _ _ _ h => h) (Or.inl ⟨by rfl, ?_⟩) hHeld ?_
                            rotate_left
                            · intro w hSw; obtain ⟨hS0, hS1, hS2⟩ := hSw; go_simp; try with_reducible rfl
                            rotate_left
                            try simp only [Act.put, List.setIfInBounds_toArray, List.set_cons_zero, List.set_cons_succ]
                            refine wpAnyH_take (i := 13) (oi := { dst := some 126, op := Go.Op.indexAddr 31 (Go.Operand.tmp 124) (Go.Operand.tmp 125), type := 0, pos := "law.go:247", after := #[{ on := 11, ground := Go.Ground.data }, { on := 12, ground := Go.Ground.data }], guard := none }) (v := ?_) rfl (by kernel_rfl) (by kernel_rfl) (by kernel_rfl) (fun _ _ _ h => h) (Or.inl ⟨by rfl, ?_⟩) hHeld ?_
                            rotate_left
                            · intro w hSw; obtain ⟨hS0, hS1, hS2⟩ := hSw; go_simp; try with_reducible rfl
                            rotate_left
                            try simp only [Act.put, List.setIfInBounds_toArray, List.set_cons_zero, List.set_cons_succ]
                            refine wpAnyH_take (i := 14) (oi := { dst := some 127, op := Go.Op.load 3 (Go.Operand.tmp 126), type := 3, pos := "law.go:247", after := #[{ on := 13, ground := Go.Ground.data }], guard := none }) (v := ?_) rfl (by kernel_rfl) (by kernel_rfl) (by kernel_rfl) (fun _ _ _ h => h) (Or.inl ⟨by rfl, ?_⟩) hHeld ?_
                            rotate_left
                            · intro w hSw; obtain ⟨hS0, hS1, hS2⟩ := hSw; go_simp; try with_reducible rfl
                            rotate_left
                            try simp only [Act.put, List.setIfInBounds_toArray, List.set_cons_zero, List.set_cons_succ]
                            refine wpAnyH_take (i := 15) (oi := { dst := some 128, op := Go.Op.binOp Go.BinOp.quo 3 (Go.Operand.tmp 127) (Go.Operand.const (Go.Value.int Go.IntKind.i64 5)) 3, type := 3, pos := "law.go:247", after := #[{ on := 14, ground := Go.Ground.data }], guard := none }) (v := ?_) rfl (by kernel_rfl) (by kernel_rfl) (by kernel_rfl) (fun _ _ _ h => h) (Or.inl ⟨by rfl, ?_⟩) hHeld ?_
                            rotate_left
                            · intro w hSw; obtain ⟨hS0, hS1, hS2⟩ := hSw; go_simp; try with_reducible rfl
                            rotate_left
                            try simp only [Act.put, List.setIfInBounds_toArray, List.set_cons_zero, List.set_cons_succ]
                            refine wpAnyH_take (i := 16) (oi := { dst := some 129, op := Go.Op.binOp Go.BinOp.eql 3 (Go.Operand.tmp 120) (Go.Operand.tmp 128) 3, type := 4, pos := "law.go:247", after := #[{ on := 7, ground := Go.Ground.data }, { on := 15, ground := Go.Ground.data }], guard := none }) (v := ?_) rfl (by kernel_rfl) (by kernel_rfl) (by kernel_rfl) (fun _ _ _ h => h) (Or.inl ⟨by rfl, ?_⟩) hHeld ?_
                            rotate_left
                            · intro w hSw; obtain ⟨hS0, hS1, hS2⟩ := hSw; go_simp; try with_reducible rfl
                            rotate_left
                            try simp only [Act.put, List.setIfInBounds_toArray, List.set_cons_zero, List.set_cons_succ]
                            refine wpAnyH_take (i := 17) (oi := { dst := some 130, op := Go.Op.move (Go.Operand.tmp 129), type := 4, pos := "law.go:247", after := #[{ on := 16, ground := Go.Ground.data }], guard := none }) (v := ?_) rfl (by kernel_rfl) (by kernel_rfl) (by kernel_rfl) (fun _ _ _ h => h) (Or.inl ⟨by rfl, ?_⟩) hHeld ?_
                            rotate_left
                            · intro w hSw; obtain ⟨hS0, hS1, hS2⟩ := hSw; go_simp; try with_reducible rfl
                            rotate_left
                            try simp only [Act.put, List.setIfInBounds_toArray, List.set_cons_zero, List.set_cons_succ]
                            refine wpAnyH_take (i := 18) (oi := { dst := some 131, op := Go.Op.move (Go.Operand.tmp 9), type := 70, pos := "law.go:247", after := #[{ on := 17, ground := Go.Ground.guard }], guard := some (17, true) }) (v := ?_) rfl (by kernel_rfl) (by kernel_rfl) (by kernel_rfl) (fun _ _ _ h => h) (Or.inl ⟨by rfl, ?_⟩) hHeld ?_
                            rotate_left
                            · intro w hSw; obtain ⟨hS0, hS1, hS2⟩ := hSw; go_simp; try with_reducible rfl
                            rotate_left
                            try simp only [Act.put, List.setIfInBounds_toArray, List.set_cons_zero, List.set_cons_succ]
                            refine wpAnyH_take (i := 19) (oi := { dst := some 132, op := Go.Op.nilCheck (Go.Operand.tmp 131), type := 0, pos := "law.go:247", after := #[{ on := 18, ground := Go.Ground.data }, { on := 17, ground := Go.Ground.guard }], guard := some (17, true) }) (v := ?_) rfl (by kernel_rfl) (by kernel_rfl) (by kernel_rfl) (fun _ _ _ h => h) (Or.inl ⟨by rfl, ?_⟩) hHeld ?_
                            rotate_left
                            · intro w hSw; obtain ⟨hS0, hS1, hS2⟩ := hSw; go_simp; try with_reducible rfl
                            rotate_left
                            try simp only [Act.put, List.setIfInBounds_toArray, List.set_cons_zero, List.set_cons_succ]
                            refine wpAnyH_take (i := 20) (oi := { dst := some 133, op := Go.Op.fieldAddr 72 (Go.Operand.tmp 132) 0, type := 0, pos := "law.go:247", after := #[{ on := 19, ground := Go.Ground.data }, { on := 17, ground := Go.Ground.guard }], guard := some (17, true) }) (v := ?_) rfl (by kernel_rfl) (by kernel_rfl) (by kernel_rfl) (fun _ _ _ h => h) (Or.inl ⟨by rfl, ?_⟩) hHeld ?_
                            rotate_left
                            · intro w hSw; obtain ⟨hS0, hS1, hS2⟩ := hSw; go_simp; try with_reducible rfl
                            rotate_left
                            try simp only [Act.put, List.setIfInBounds_toArray, List.set_cons_zero, List.set_cons_succ]
                            refine wpAnyH_take (i := 21) (oi := { dst := some 134, op := Go.Op.load 31 (Go.Operand.tmp 133), type := 31, pos := "law.go:247", after := #[{ on := 20, ground := Go.Ground.data }, { on := 17, ground := Go.Ground.guard }], guard := some (17, true) }) (v := ?_) rfl (by kernel_rfl) (by kernel_rfl) (by kernel_rfl) (fun _ _ _ h => h) (Or.inl ⟨by rfl, ?_⟩) hHeld ?_
                            rotate_left
                            · intro w hSw; obtain ⟨hS0, hS1, hS2⟩ := hSw; go_simp; try with_reducible rfl
                            rotate_left
                            try simp only [Act.put, List.setIfInBounds_toArray, List.set_cons_zero, List.set_cons_succ]
                            refine wpAnyH_take (i := 22) (oi := { dst := some 135, op := Go.Op.move (Go.Operand.tmp 20), type := 3, pos := "law.go:247", after := #[{ on := 17, ground := Go.Ground.guard }], guard := some (17, true) }) (v := ?_) rfl (by kernel_rfl) (by kernel_rfl) (by kernel_rfl) (fun _ _ _ h => h) (Or.inl ⟨by rfl, ?_⟩) hHeld ?_
                            rotate_left
                            · intro w hSw; obtain ⟨hS0, hS1, hS2⟩ := hSw; go_simp; try with_reducible rfl
                            rotate_left
                            try simp only [Act.put, List.setIfInBounds_toArray, List.set_cons_zero, List.set_cons_succ]
                            refine wpAnyH_take (i := 23) (oi := { dst := some 136, op := Go.Op.indexAddr 31 (Go.Operand.tmp 134) (Go.Operand.tmp 135), type := 0, pos := "law.go:247", after := #[{ on := 21, ground := Go.Ground.data }, { on := 22, ground := Go.Ground.data }, { on := 17, ground := Go.Ground.guard }], guard := some (17, true) }) (v := ?_) rfl (by kernel_rfl) (by kernel_rfl) (by kernel_rfl) (fun _ _ _ h => h) (Or.inl ⟨by rfl, ?_⟩) hHeld ?_
                            rotate_left
                            · intro w hSw; obtain ⟨hS0, hS1, hS2⟩ := hSw; go_simp; try with_reducible rfl
                            rotate_left
                            try simp only [Act.put, List.setIfInBounds_toArray, List.set_cons_zero, List.set_cons_succ]
                            refine wpAnyH_take (i := 24) (oi := { dst := some 137, op := Go.Op.load 3 (Go.Operand.tmp 136), type := 3, pos := "law.go:247", after := #[{ on := 23, ground := Go.Ground.data }, { on := 17, ground := Go.Ground.guard }], guard := some (17, true) }) (v := ?_) rfl (by kernel_rfl) (by kernel_rfl) (by kernel_rfl) (fun _ _ _ h => h) (Or.inl ⟨by rfl, ?_⟩) hHeld ?_
                            rotate_left
                            · intro w hSw; obtain ⟨hS0, hS1, hS2⟩ := hSw; go_simp; try with_reducible rfl
                            rotate_left
                            try simp only [Act.put, List.setIfInBounds_toArray, List.set_cons_zero, List.set_cons_succ]
                            refine wpAnyH_take (i := 25) (oi := { dst := some 138, op := Go.Op.move (Go.Operand.tmp 9), type := 70, pos := "law.go:247", after := #[{ on := 17, ground := Go.Ground.guard }], guard := some (17, true) }) (v := ?_) rfl (by kernel_rfl) (by kernel_rfl) (by kernel_rfl) (fun _ _ _ h => h) (Or.inl ⟨by rfl, ?_⟩) hHeld ?_
                            rotate_left
                            · intro w hSw; obtain ⟨hS0, hS1, hS2⟩ := hSw; go_simp; try with_reducible rfl
                            rotate_left
                            try simp only [Act.put, List.setIfInBounds_toArray, List.set_cons_zero, List.set_cons_succ]
                            refine wpAnyH_take (i := 26) (oi := { dst := some 139, op := Go.Op.nilCheck (Go.Operand.tmp 138), type := 0, pos := "law.go:247", after := #[{ on := 25, ground := Go.Ground.data }, { on := 17, ground := Go.Ground.guard }], guard := some (17, true) }) (v := ?_) rfl (by kernel_rfl) (by kernel_rfl) (by kernel_rfl) (fun _ _ _ h => h) (Or.inl ⟨by rfl, ?_⟩) hHeld ?_
                            rotate_left
                            · intro w hSw; obtain ⟨hS0, hS1, hS2⟩ := hSw; go_simp; try with_reducible rfl
                            rotate_left
                            try simp only [Act.put, List.setIfInBounds_toArray, List.set_cons_zero, List.set_cons_succ]
                            refine wpAnyH_take (i := 27) (oi := { dst := some 140, op := Go.Op.fieldAddr 72 (Go.Operand.tmp 139) 0, type := 0, pos := "law.go:247", after := #[{ on := 26, ground := Go.Ground.data }, { on := 17, ground := Go.Ground.guard }], guard := some (17, true) }) (v := ?_) rfl (by kernel_rfl) (by kernel_rfl) (by kernel_rfl) (fun _ _ _ h => h) (Or.inl ⟨by rfl, ?_⟩) hHeld ?_
                            rotate_left
                            · intro w hSw; obtain ⟨hS0, hS1, hS2⟩ := hSw; go_simp; try with_reducible rfl
                            rotate_left
                            try simp only [Act.put, List.setIfInBounds_toArray, List.set_cons_zero, List.set_cons_succ]
                            refine wpAnyH_take (i := 28) (oi := { dst := some 141, op := Go.Op.load 31 (Go.Operand.tmp 140), type := 31, pos := "law.go:247", after := #[{ on := 27, ground := Go.Ground.data }, { on := 17, ground := Go.Ground.guard }], guard := some (17, true) }) (v := ?_) rfl (by kernel_rfl) (by kernel_rfl) (by kernel_rfl) (fun _ _ _ h => h) (Or.inl ⟨by rfl, ?_⟩) hHeld ?_
                            rotate_left
                            · intro w hSw; obtain ⟨hS0, hS1, hS2⟩ := hSw; go_simp; try with_reducible rfl
                            rotate_left
                            try simp only [Act.put, List.setIfInBounds_toArray, List.set_cons_zero, List.set_cons_succ]
                            refine wpAnyH_take (i := 29) (oi := { dst := some 142, op := Go.Op.move (Go.Operand.tmp 19), type := 3, pos := "law.go:247", after := #[{ on := 17, ground := Go.Ground.guard }], guard := some (17, true) }) (v := ?_) rfl (by kernel_rfl) (by kernel_rfl) (by kernel_rfl) (fun _ _ _ h => h) (Or.inl ⟨by rfl, ?_⟩) hHeld ?_
                            rotate_left
                            · intro w hSw; obtain ⟨hS0, hS1, hS2⟩ := hSw; go_simp; try with_reducible rfl
                            rotate_left
                            try simp only [Act.put, List.setIfInBounds_toArray, List.set_cons_zero, List.set_cons_succ]
                            refine wpAnyH_take (i := 30) (oi := { dst := some 143, op := Go.Op.indexAddr 31 (Go.Operand.tmp 141) (Go.Operand.tmp 142), type := 0, pos := "law.go:247", after := #[{ on := 28, ground := Go.Ground.data }, { on := 29, ground := Go.Ground.data }, { on := 17, ground := Go.Ground.guard }], guard := some (17, true) }) (v := ?_) rfl (by kernel_rfl) (by kernel_rfl) (by kernel_rfl) (fun _ _ _ h => h) (Or.inl ⟨by rfl, ?_⟩) hHeld ?_
                            rotate_left
                            · intro w hSw; obtain ⟨hS0, hS1, hS2⟩ := hSw; go_simp; try with_reducible rfl
                            rotate_left
                            try simp only [Act.put, List.setIfInBounds_toArray, List.set_cons_zero, List.set_cons_succ]
                            refine wpAnyH_take (i := 31) (oi := { dst := some 144, op := Go.Op.load 3 (Go.Operand.tmp 143), type := 3, pos := "law.go:247", after := #[{ on := 30, ground := Go.Ground.data }, { on := 17, ground := Go.Ground.guard }], guard := some (17, true) }) (v := ?_) rfl (by kernel_rfl) (by kernel_rfl) (by kernel_rfl) (fun _ _ _ h => h) (Or.inl ⟨by rfl, ?_⟩) hHeld ?_
                            rotate_left
                            · intro w hSw; obtain ⟨hS0, hS1, hS2⟩ := hSw; go_simp; try with_reducible rfl
                            rotate_left
                            try simp only [Act.put, List.setIfInBounds_toArray, List.set_cons_zero, List.set_cons_succ]
                            refine wpAnyH_take (i := 32) (oi := { dst := some 145, op := Go.Op.binOp Go.BinOp.lss 3 (Go.Operand.tmp 137) (Go.Operand.tmp 144) 3, type := 4, pos := "law.go:247", after := #[{ on := 24, ground := Go.Ground.data }, { on := 31, ground := Go.Ground.data }, { on := 17, ground := Go.Ground.guard }], guard := some (17, true) }) (v := ?_) rfl (by kernel_rfl) (by kernel_rfl) (by kernel_rfl) (fun _ _ _ h => h) (Or.inl ⟨by rfl, ?_⟩) hHeld ?_
                            rotate_left
                            · intro w hSw; obtain ⟨hS0, hS1, hS2⟩ := hSw; go_simp; try with_reducible rfl
                            rotate_left
                            try simp only [Act.put, List.setIfInBounds_toArray, List.set_cons_zero, List.set_cons_succ]
                            refine wpAnyH_take (i := 33) (oi := { dst := some 146, op := Go.Op.pick (Go.Operand.tmp 130) (Go.Operand.tmp 145) (Go.Operand.const (Go.Value.bool false)), type := 4, pos := "law.go:247", after := #[{ on := 17, ground := Go.Ground.data }, { on := 32, ground := Go.Ground.data }], guard := none }) (v := ?_) rfl (by kernel_rfl) (by kernel_rfl) (by kernel_rfl) (fun _ _ _ h => h) (Or.inl ⟨by rfl, ?_⟩) hHeld ?_
                            rotate_left
                            · intro w hSw; obtain ⟨hS0, hS1, hS2⟩ := hSw; go_simp; try with_reducible rfl
                            rotate_left
                            try simp only [Act.put, List.setIfInBounds_toArray, List.set_cons_zero, List.set_cons_succ]
                            refine wpAnyH_done (by kernel_rfl) ?_ _
                            go_wp2_with fail
                            go_roundw
                            case rel => exact ⟨k + 1, by go_num, by omega, by omega, F⟩
                            case measure => simp [intOf]; omega
                          · have hbe : (qx == qy) = false := by simp [heq]
                            clear hno heq
                            refine wp_region_held_drew (S := fun W' => W'.cell? ⟨h1 + 1, 0, none⟩ = some (.slice (some a2) got.length cg) ∧ W'.cell? (a2.add k) = some (.int .i64 x) ∧ W'.cell? (a2.add i) = some (.int .i64 y)) (by kernel_rfl) hS3 (fun hHeld => ?_)
                            refine wpAnyH_take (i := 0) (oi := { dst := some 113, op := Go.Op.move (Go.Operand.tmp 9), type := 70, pos := "law.go:247", after := #[], guard := none }) (v := ?_) rfl (by kernel_rfl) (by kernel_rfl) (by kernel_rfl) (fun _ _ _ h => h) (Or.inl ⟨by rfl, ?_⟩) hHeld ?_
                            rotate_left
                            · intro w hSw; obtain ⟨hS0, hS1, hS2⟩ := hSw; go_simp; try with_reducible rfl
                            rotate_left
                            try simp only [Act.put, List.setIfInBounds_toArray, List.set_cons_zero, List.set_cons_succ]
                            refine wpAnyH_take (i := 1) (oi := { dst := some 114, op := Go.Op.nilCheck (Go.Operand.tmp 113), type := 0, pos := "law.go:247", after := #[{ on := 0, ground := Go.Ground.data }], guard := none }) (v := ?_) rfl (by kernel_rfl) (by kernel_rfl) (by kernel_rfl) (fun _ _ _ h => h) (Or.inl ⟨by rfl, ?_⟩) hHeld ?_
                            rotate_left
                            · intro w hSw; obtain ⟨hS0, hS1, hS2⟩ := hSw; go_simp; try with_reducible rfl
                            rotate_left
                            try simp only [Act.put, List.setIfInBounds_toArray, List.set_cons_zero, List.set_cons_succ]
                            refine wpAnyH_take (i := 2) (oi := { dst := some 115, op := Go.Op.fieldAddr 72 (Go.Operand.tmp 114) 0, type := 0, pos := "law.go:247", after := #[{ on := 1, ground := Go.Ground.data }], guard := none }) (v := ?_) rfl (by kernel_rfl) (by kernel_rfl) (by kernel_rfl) (fun _ _ _ h => h) (Or.inl ⟨by rfl, ?_⟩) hHeld ?_
                            rotate_left
                            · intro w hSw; obtain ⟨hS0, hS1, hS2⟩ := hSw; go_simp; try with_reducible rfl
                            rotate_left
                            try simp only [Act.put, List.setIfInBounds_toArray, List.set_cons_zero, List.set_cons_succ]
                            refine wpAnyH_take (i := 3) (oi := { dst := some 116, op := Go.Op.load 31 (Go.Operand.tmp 115), type := 31, pos := "law.go:247", after := #[{ on := 2, ground := Go.Ground.data }], guard := none }) (v := ?_) rfl (by kernel_rfl) (by kernel_rfl) (by kernel_rfl) (fun _ _ _ h => h) (Or.inl ⟨by rfl, ?_⟩) hHeld ?_
                            rotate_left
                            · intro w hSw; obtain ⟨hS0, hS1, hS2⟩ := hSw; go_simp; try with_reducible rfl
                            rotate_left
                            try simp only [Act.put, List.setIfInBounds_toArray, List.set_cons_zero, List.set_cons_succ]
                            refine wpAnyH_take (i := 4) (oi := { dst := some 117, op := Go.Op.move (Go.Operand.tmp 20), type := 3, pos := "law.go:247", after := #[], guard := none }) (v := ?_) rfl (by kernel_rfl) (by kernel_rfl) (by kernel_rfl) (fun _ _ _ h => h) (Or.inl ⟨by rfl, ?_⟩) hHeld ?_
                            rotate_left
                            · intro w hSw; obtain ⟨hS0, hS1, hS2⟩ := hSw; go_simp; try with_reducible rfl
                            rotate_left
                            try simp only [Act.put, List.setIfInBounds_toArray, List.set_cons_zero, List.set_cons_succ]
                            refine wpAnyH_take (i := 5) (oi := { dst := some 118, op := Go.Op.indexAddr 31 (Go.Operand.tmp 116) (Go.Operand.tmp 117), type := 0, pos := "law.go:247", after := #[{ on := 3, ground := Go.Ground.data }, { on := 4, ground := Go.Ground.data }], guard := none }) (v := ?_) rfl (by kernel_rfl) (by kernel_rfl) (by kernel_rfl) (fun _ _ _ h => h) (Or.inl ⟨by rfl, ?_⟩) hHeld ?_
                            rotate_left
                            · intro w hSw; obtain ⟨hS0, hS1, hS2⟩ := hSw; go_simp; try with_reducible rfl
                            rotate_left
                            try simp only [Act.put, List.setIfInBounds_toArray, List.set_cons_zero, List.set_cons_succ]
                            refine wpAnyH_take (i := 6) (oi := { dst := some 119, op := Go.Op.load 3 (Go.Operand.tmp 118), type := 3, pos := "law.go:247", after := #[{ on := 5, ground := Go.Ground.data }], guard := none }) (v := ?_) rfl (by kernel_rfl) (by kernel_rfl) (by kernel_rfl) (fun _ _ _ h => h) (Or.inl ⟨by rfl, ?_⟩) hHeld ?_
                            rotate_left
                            · intro w hSw; obtain ⟨hS0, hS1, hS2⟩ := hSw; go_simp; try with_reducible rfl
                            rotate_left
                            try simp only [Act.put, List.setIfInBounds_toArray, List.set_cons_zero, List.set_cons_succ]
                            refine wpAnyH_take (i := 7) (oi := { dst := some 120, op := Go.Op.binOp Go.BinOp.quo 3 (Go.Operand.tmp 119) (Go.Operand.const (Go.Value.int Go.IntKind.i64 5)) 3, type := 3, pos := "law.go:247", after := #[{ on := 6, ground := Go.Ground.data }], guard := none }) (v := ?_) rfl (by kernel_rfl) (by kernel_rfl) (by kernel_rfl) (fun _ _ _ h => h) (Or.inl ⟨by rfl, ?_⟩) hHeld ?_
                            rotate_left
                            · intro w hSw; obtain ⟨hS0, hS1, hS2⟩ := hSw; go_simp; try with_reducible rfl
                            rotate_left
                            try simp only [Act.put, List.setIfInBounds_toArray, List.set_cons_zero, List.set_cons_succ]
                            refine wpAnyH_take (i := 8) (oi := { dst := some 121, op := Go.Op.move (Go.Operand.tmp 9), type := 70, pos := "law.go:247", after := #[], guard := none }) (v := ?_) rfl (by kernel_rfl) (by kernel_rfl) (by kernel_rfl) (fun _ _ _ h => h) (Or.inl ⟨by rfl, ?_⟩) hHeld ?_
                            rotate_left
                            · intro w hSw; obtain ⟨hS0, hS1, hS2⟩ := hSw; go_simp; try with_reducible rfl
                            rotate_left
                            try simp only [Act.put, List.setIfInBounds_toArray, List.set_cons_zero, List.set_cons_succ]
                            refine wpAnyH_take (i := 9) (oi := { dst := some 122, op := Go.Op.nilCheck (Go.Operand.tmp 121), type := 0, pos := "law.go:247", after := #[{ on := 8, ground := Go.Ground.data }], guard := none }) (v := ?_) rfl (by kernel_rfl) (by kernel_rfl) (by kernel_rfl) (fun _ _ _ h => h) (Or.inl ⟨by rfl, ?_⟩) hHeld ?_
                            rotate_left
                            · intro w hSw; obtain ⟨hS0, hS1, hS2⟩ := hSw; go_simp; try with_reducible rfl
                            rotate_left
                            try simp only [Act.put, List.setIfInBounds_toArray, List.set_cons_zero, List.set_cons_succ]
                            refine wpAnyH_take (i := 10) (oi := { dst := some 123, op := Go.Op.fieldAddr 72 (Go.Operand.tmp 122) 0, type := 0, pos := "law.go:247", after := #[{ on := 9, ground := Go.Ground.data }], guard := none }) (v := ?_) rfl (by kernel_rfl) (by kernel_rfl) (by kernel_rfl) (fun _ _ _ h => h) (Or.inl ⟨by rfl, ?_⟩) hHeld ?_
                            rotate_left
                            · intro w hSw; obtain ⟨hS0, hS1, hS2⟩ := hSw; go_simp; try with_reducible rfl
                            rotate_left
                            try simp only [Act.put, List.setIfInBounds_toArray, List.set_cons_zero, List.set_cons_succ]
                            refine wpAnyH_take (i := 11) (oi := { dst := some 124, op := Go.Op.load 31 (Go.Operand.tmp 123), type := 31, pos := "law.go:247", after := #[{ on := 10, ground := Go.Ground.data }], guard := none }) (v := ?_) rfl (by kernel_rfl) (by kernel_rfl) (by kernel_rfl) (fun _ _ _ h => h) (Or.inl ⟨by rfl, ?_⟩) hHeld ?_
                            rotate_left
                            · intro w hSw; obtain ⟨hS0, hS1, hS2⟩ := hSw; go_simp; try with_reducible rfl
                            rotate_left
                            try simp only [Act.put, List.setIfInBounds_toArray, List.set_cons_zero, List.set_cons_succ]
                            refine wpAnyH_take (i := 12) (oi := { dst := some 125, op := Go.Op.move (Go.Operand.tmp 19), type := 3, pos := "law.go:247", after := #[], guard := none }) (v := ?_) rfl (by kernel_rfl) (by kernel_rfl) (by kernel_rfl) (fun _ _ _ h => h) (Or.inl ⟨by rfl, ?_⟩) hHeld ?_
                            rotate_left
                            · intro w hSw; obtain ⟨hS0, hS1, hS2⟩ := hSw; go_simp; try with_reducible rfl
                            rotate_left
                            try simp only [Act.put, List.setIfInBounds_toArray, List.set_cons_zero, List.set_cons_succ]
                            refine wpAnyH_take (i := 13) (oi := { dst := some 126, op := Go.Op.indexAddr 31 (Go.Operand.tmp 124) (Go.Operand.tmp 125), type := 0, pos := "law.go:247", after := #[{ on := 11, ground := Go.Ground.data }, { on := 12, ground := Go.Ground.data }], guard := none }) (v := ?_) rfl (by kernel_rfl) (by kernel_rfl) (by kernel_rfl) (fun _ _ _ h => h) (Or.inl ⟨by rfl, ?_⟩) hHeld ?_
                            rotate_left
                            · intro w hSw; obtain ⟨hS0, hS1, hS2⟩ := hSw; go_simp; try with_reducible rfl
                            rotate_left
                            try simp only [Act.put, List.setIfInBounds_toArray, List.set_cons_zero, List.set_cons_succ]
                            refine wpAnyH_take (i := 14) (oi := { dst := some 127, op := Go.Op.load 3 (Go.Operand.tmp 126), type := 3, pos := "law.go:247", after := #[{ on := 13, ground := Go.Ground.data }], guard := none }) (v := ?_) rfl (by kernel_rfl) (by kernel_rfl) (by kernel_rfl) (fun _ _ _ h => h) (Or.inl ⟨by rfl, ?_⟩) hHeld ?_
                            rotate_left
                            · intro w hSw; obtain ⟨hS0, hS1, hS2⟩ := hSw; go_simp; try with_reducible rfl
                            rotate_left
                            try simp only [Act.put, List.setIfInBounds_toArray, List.set_cons_zero, List.set_cons_succ]
                            refine wpAnyH_take (i := 15) (oi := { dst := some 128, op := Go.Op.binOp Go.BinOp.quo 3 (Go.Operand.tmp 127) (Go.Operand.const (Go.Value.int Go.IntKind.i64 5)) 3, type := 3, pos := "law.go:247", after := #[{ on := 14, ground := Go.Ground.data }], guard := none }) (v := ?_) rfl (by kernel_rfl) (by kernel_rfl) (by kernel_rfl) (fun _ _ _ h => h) (Or.inl ⟨by rfl, ?_⟩) hHeld ?_
                            rotate_left
                            · intro w hSw; obtain ⟨hS0, hS1, hS2⟩ := hSw; go_simp; try with_reducible rfl
                            rotate_left
                            try simp only [Act.put, List.setIfInBounds_toArray, List.set_cons_zero, List.set_cons_succ]
                            refine wpAnyH_take (i := 16) (oi := { dst := some 129, op := Go.Op.binOp Go.BinOp.eql 3 (Go.Operand.tmp 120) (Go.Operand.tmp 128) 3, type := 4, pos := "law.go:247", after := #[{ on := 7, ground := Go.Ground.data }, { on := 15, ground := Go.Ground.data }], guard := none }) (v := ?_) rfl (by kernel_rfl) (by kernel_rfl) (by kernel_rfl) (fun _ _ _ h => h) (Or.inl ⟨by rfl, ?_⟩) hHeld ?_
                            rotate_left
                            · intro w hSw; obtain ⟨hS0, hS1, hS2⟩ := hSw; go_simp; try with_reducible rfl
                            rotate_left
                            try simp only [Act.put, List.setIfInBounds_toArray, List.set_cons_zero, List.set_cons_succ]
                            refine wpAnyH_take (i := 17) (oi := { dst := some 130, op := Go.Op.move (Go.Operand.tmp 129), type := 4, pos := "law.go:247", after := #[{ on := 16, ground := Go.Ground.data }], guard := none }) (v := ?_) rfl (by kernel_rfl) (by kernel_rfl) (by kernel_rfl) (fun _ _ _ h => h) (Or.inl ⟨by rfl, ?_⟩) hHeld ?_
                            rotate_left
                            · intro w hSw; obtain ⟨hS0, hS1, hS2⟩ := hSw; go_simp; try with_reducible rfl
                            rotate_left
                            try simp only [Act.put, List.setIfInBounds_toArray, List.set_cons_zero, List.set_cons_succ]
                            refine wpAnyH_take (i := 18) (oi := { dst := some 131, op := Go.Op.move (Go.Operand.tmp 9), type := 70, pos := "law.go:247", after := #[{ on := 17, ground := Go.Ground.guard }], guard := some (17, true) }) (v := undef) rfl (by kernel_rfl) (by kernel_rfl) (by kernel_rfl) (fun _ _ _ h => h) (Or.inr ⟨by rfl, rfl⟩) hHeld ?_
                            try simp only [Act.put, List.setIfInBounds_toArray, List.set_cons_zero, List.set_cons_succ]
                            refine wpAnyH_take (i := 19) (oi := { dst := some 132, op := Go.Op.nilCheck (Go.Operand.tmp 131), type := 0, pos := "law.go:247", after := #[{ on := 18, ground := Go.Ground.data }, { on := 17, ground := Go.Ground.guard }], guard := some (17, true) }) (v := undef) rfl (by kernel_rfl) (by kernel_rfl) (by kernel_rfl) (fun _ _ _ h => h) (Or.inr ⟨by rfl, rfl⟩) hHeld ?_
                            try simp only [Act.put, List.setIfInBounds_toArray, List.set_cons_zero, List.set_cons_succ]
                            refine wpAnyH_take (i := 20) (oi := { dst := some 133, op := Go.Op.fieldAddr 72 (Go.Operand.tmp 132) 0, type := 0, pos := "law.go:247", after := #[{ on := 19, ground := Go.Ground.data }, { on := 17, ground := Go.Ground.guard }], guard := some (17, true) }) (v := undef) rfl (by kernel_rfl) (by kernel_rfl) (by kernel_rfl) (fun _ _ _ h => h) (Or.inr ⟨by rfl, rfl⟩) hHeld ?_
                            try simp only [Act.put, List.setIfInBounds_toArray, List.set_cons_zero, List.set_cons_succ]
                            refine wpAnyH_take (i := 21) (oi := { dst := some 134, op := Go.Op.load 31 (Go.Operand.tmp 133), type := 31, pos := "law.go:247", after := #[{ on := 20, ground := Go.Ground.data }, { on := 17, ground := Go.Ground.guard }], guard := some (17, true) }) (v := undef) rfl (by kernel_rfl) (by kernel_rfl) (by kernel_rfl) (fun _ _ _ h => h) (Or.inr ⟨by rfl, rfl⟩) hHeld ?_
                            try simp only [Act.put, List.setIfInBounds_toArray, List.set_cons_zero, List.set_cons_succ]
                            refine wpAnyH_take (i := 22) (oi := { dst := some 135, op := Go.Op.move (Go.Operand.tmp 20), type := 3, pos := "law.go:247", after := #[{ on := 17, ground := Go.Ground.guard }], guard := some (17, true) }) (v := undef) rfl (by kernel_rfl) (by kernel_rfl) (by kernel_rfl) (fun _ _ _ h => h) (Or.inr ⟨by rfl, rfl⟩) hHeld ?_
                            try simp only [Act.put, List.setIfInBounds_toArray, List.set_cons_zero, List.set_cons_succ]
                            refine wpAnyH_take (i := 23) (oi := { dst := some 136, op := Go.Op.indexAddr 31 (Go.Operand.tmp 134) (Go.Operand.tmp 135), type := 0, pos := "law.go:247", after := #[{ on := 21, ground := Go.Ground.data }, { on := 22, ground := Go.Ground.data }, { on := 17, ground := Go.Ground.guard }], guard := some (17, true) }) (v := undef) rfl (by kernel_rfl) (by kernel_rfl) (by kernel_rfl) (fun _ _ _ h => h) (Or.inr ⟨by rfl, rfl⟩) hHeld ?_
                            try simp only [Act.put, List.setIfInBounds_toArray, List.set_cons_zero, List.set_cons_succ]
                            refine wpAnyH_take (i := 24) (oi := { dst := some 137, op := Go.Op.load 3 (Go.Operand.tmp 136), type := 3, pos := "law.go:247", after := #[{ on := 23, ground := Go.Ground.data }, { on := 17, ground := Go.Ground.guard }], guard := some (17, true) }) (v := undef) rfl (by kernel_rfl) (by kernel_rfl) (by kernel_rfl) (fun _ _ _ h => h) (Or.inr ⟨by rfl, rfl⟩) hHeld ?_
                            try simp only [Act.put, List.setIfInBounds_toArray, List.set_cons_zero, List.set_cons_succ]
                            refine wpAnyH_take (i := 25) (oi := { dst := some 138, op := Go.Op.move (Go.Operand.tmp 9), type := 70, pos := "law.go:247", after := #[{ on := 17, ground := Go.Ground.guard }], guard := some (17, true) }) (v := undef) rfl (by kernel_rfl) (by kernel_rfl) (by kernel_rfl) (fun _ _ _ h => h) (Or.inr ⟨by rfl, rfl⟩) hHeld ?_
                            try simp only [Act.put, List.setIfInBounds_toArray, List.set_cons_zero, List.set_cons_succ]
                            refine wpAnyH_take (i := 26) (oi := { dst := some 139, op := Go.Op.nilCheck (Go.Operand.tmp 138), type := 0, pos := "law.go:247", after := #[{ on := 25, ground := Go.Ground.data }, { on := 17, ground := Go.Ground.guard }], guard := some (17, true) }) (v := undef) rfl (by kernel_rfl) (by kernel_rfl) (by kernel_rfl) (fun _ _ _ h => h) (Or.inr ⟨by rfl, rfl⟩) hHeld ?_
                            try simp only [Act.put, List.setIfInBounds_toArray, List.set_cons_zero, List.set_cons_succ]
                            refine wpAnyH_take (i := 27) (oi := { dst := some 140, op := Go.Op.fieldAddr 72 (Go.Operand.tmp 139) 0, type := 0, pos := "law.go:247", after := #[{ on := 26, ground := Go.Ground.data }, { on := 17, ground := Go.Ground.guard }], guard := some (17, true) }) (v := undef) rfl (by kernel_rfl) (by kernel_rfl) (by kernel_rfl) (fun _ _ _ h => h) (Or.inr ⟨by rfl, rfl⟩) hHeld ?_
                            try simp only [Act.put, List.setIfInBounds_toArray, List.set_cons_zero, List.set_cons_succ]
                            refine wpAnyH_take (i := 28) (oi := { dst := some 141, op := Go.Op.load 31 (Go.Operand.tmp 140), type := 31, pos := "law.go:247", after := #[{ on := 27, ground := Go.Ground.data }, { on := 17, ground := Go.Ground.guard }], guard := some (17, true) }) (v := undef) rfl (by kernel_rfl) (by kernel_rfl) (by kernel_rfl) (fun _ _ _ h => h) (Or.inr ⟨by rfl, rfl⟩) hHeld ?_
                            try simp only [Act.put, List.setIfInBounds_toArray, List.set_cons_zero, List.set_cons_succ]
                            refine wpAnyH_take (i := 29) (oi := { dst := some 142, op := Go.Op.move (Go.Operand.tmp 19), type := 3, pos := "law.go:247", after := #[{ on := 17, ground := Go.Ground.guard }], guard := some (17, true) }) (v := undef) rfl (by kernel_rfl) (by kernel_rfl) (by kernel_rfl) (fun _ _ _ h => h) (Or.inr ⟨by rfl, rfl⟩) hHeld ?_
                            try simp only [Act.put, List.setIfInBounds_toArray, List.set_cons_zero, List.set_cons_succ]
                            refine wpAnyH_take (i := 30) (oi := { dst := some 143, op := Go.Op.indexAddr 31 (Go.Operand.tmp 141) (Go.Operand.tmp 142), type := 0, pos := "law.go:247", after := #[{ on := 28, ground := Go.Ground.data }, { on := 29, ground := Go.Ground.data }, { on := 17, ground := Go.Ground.guard }], guard := some (17, true) }) (v := undef) rfl (by kernel_rfl) (by kernel_rfl) (by kernel_rfl) (fun _ _ _ h => h) (Or.inr ⟨by rfl, rfl⟩) hHeld ?_
                            try simp only [Act.put, List.setIfInBounds_toArray, List.set_cons_zero, List.set_cons_succ]
                            refine wpAnyH_take (i := 31) (oi := { dst := some 144, op := Go.Op.load 3 (Go.Operand.tmp 143), type := 3, pos := "law.go:247", after := #[{ on := 30, ground := Go.Ground.data }, { on := 17, ground := Go.Ground.guard }], guard := some (17, true) }) (v := undef) rfl (by kernel_rfl) (by kernel_rfl) (by kernel_rfl) (fun _ _ _ h => h) (Or.inr ⟨by rfl, rfl⟩) hHeld ?_
                            try simp only [Act.put, List.setIfInBounds_toArray, List.set_cons_zero, List.set_cons_succ]
                            refine wpAnyH_take (i := 32) (oi := { dst := some 145, op := Go.Op.binOp Go.BinOp.lss 3 (Go.Operand.tmp 137) (Go.Operand.tmp 144) 3, type := 4, pos := "law.go:247", after := #[{ on := 24, ground := Go.Ground.data }, { on := 31, ground := Go.Ground.data }, { on := 17, ground := Go.Ground.guard }], guard := some (17, true) }) (v := undef) rfl (by kernel_rfl) (by kernel_rfl) (by kernel_rfl) (fun _ _ _ h => h) (Or.inr ⟨by rfl, rfl⟩) hHeld ?_
                            try simp only [Act.put, List.setIfInBounds_toArray, List.set_cons_zero, List.set_cons_succ]
                            refine wpAnyH_take (i := 33) (oi := { dst := some 146, op := Go.Op.pick (Go.Operand.tmp 130) (Go.Operand.tmp 145) (Go.Operand.const (Go.Value.bool false)), type := 4, pos := "law.go:247", after := #[{ on := 17, ground := Go.Ground.data }, { on := 32, ground := Go.Ground.data }], guard := none }) (v := ?_) rfl (by kernel_rfl) (by kernel_rfl) (by kernel_rfl) (fun _ _ _ h => h) (Or.inl ⟨by rfl, ?_⟩) hHeld ?_
                            rotate_left
                            · intro w hSw; obtain ⟨hS0, hS1, hS2⟩ := hSw; go_simp; try with_reducible rfl
                            rotate_left
                            try simp only [Act.put, List.setIfInBounds_toArray, List.set_cons_zero, List.set_cons_succ]
                            refine wpAnyH_done (by kernel_rfl) ?_ _
                            go_wp2_with fail
                            go_roundw
                            case rel => exact ⟨k + 1, by go_num, by omega, by omega, F⟩
                            case measure => simp [intOf]; omega
                        · obtain rfl : k = i := by omega
                          go_wp2_with fail
                          go_roundw
                          case rel => exact ⟨k + 1, by go_num, by omega, by omega, tZ3⟩
                          case measure => simp [intOf]; omega
                    · obtain rfl : i = E := by omega
                      go_wp2_with fail
                      go_roundw
                      case rel => exact ⟨e + 1, by go_num, by omega, i, rfl, g2, HG4.out, tZ2⟩
                      case measure => simp [intOf]; omega
                · obtain rfl : e = ends.length := by omega
                  have bb := HBE.out
                  have gB := HP.out.2.1
                  go_wp2_with fail
                  go_ret
                  exact ⟨rfl, b01.trans (((bb.mono (by rw [gB]; exact Nat.le_of_lt lt4)).trans (tZ.below (B := w.heap.size) (by simp) (by have := bb.size; omega))))⟩

theorem order9_nat (a0 a1 a2 a3 b : Int) (PA : Option Addr) (np pcp : Nat) (xs : List Int) (w : World) (h0 : 0 ≤ a0 ∧ a0 < 256) (h1 : 0 ≤ a1 ∧ a1 < 256) (h2 : 0 ≤ a2 ∧ a2 < 256) (h3 : 0 ≤ a3 ∧ a3 < 256) (hb : 0 ≤ b ∧ b < 256) (hp : Row w .i64 PA np xs) :
    Calls Try.prog 10 #[.agg #[.int .u8 a0, .int .u8 a1, .int .u8 a2, .int .u8 a3], .int .u8 b, .slice PA np pcp] w fun e w' => e = .returned (.bool true) ∧ Below w.heap.size w w' := by
  obtain ⟨x0, rfl⟩ := Int.eq_ofNat_of_zero_le h0.1
  obtain ⟨x1, rfl⟩ := Int.eq_ofNat_of_zero_le h1.1
  obtain ⟨x2, rfl⟩ := Int.eq_ofNat_of_zero_le h2.1
  obtain ⟨x3, rfl⟩ := Int.eq_ofNat_of_zero_le h3.1
  obtain ⟨y, rfl⟩ := Int.eq_ofNat_of_zero_le hb.1
  exact order9 (fun k => match k with | 0 => x0 | 1 => x1 | 2 => x2 | _ => x3) (fun k => by
    match k with
    | 0 => show x0 < 256; omega
    | 1 => show x1 < 256; omega
    | 2 => show x2 < 256; omega
    | n + 3 => show x3 < 256; omega) y (by omega) PA np pcp xs w hp

end Go.Proofs.Ytgdonejclggjlaa
