/- The inbox: one task alone: the walk. -/
import Derived.Test.YtgdonejclggjlaaUC1
import Derived.Deep.CutBlock
namespace Go.Proofs.Ytgdonejclggjlaa
open Go.RowKit Go.ChangeShapes Go.WideShapes
set_option maxRecDepth 100000

set_option maxHeartbeats 4000000 in
theorem alone9_nat (A : Option Addr) (n cp : Nat) (F : Nat → Nat → Int) (w : World) (hr : Acts w A n F) :
    Calls Try.prog 7 #[.slice A n cp] w fun e w' => e = .returned (.bool true) ∧ Below w.heap.size w w' := by
  by_cases hn : 60 < n
  · have hn' : (60 : Int) < n := by omega
    clear hr
    go_enter Try.func7, Try.ntmps7
    go_wp2_with fail
    refine (speaks9_any _).mono ?_
    rintro e w1 ⟨rfl, b1⟩
    go_wp2_with fail
    refine (speaks9_any _).mono ?_
    rintro e w2 ⟨rfl, b2⟩
    go_wp2
    go_ret
    exact ⟨rfl, b1.trans (b2.mono b1.size)⟩
  · have hn' : ¬ ((60 : Int) < n) := by omega
    have hmf := hmf_run
    have y2 := fun (a : Addr) (f : FuncId) (c : Array Value) (w : World) => run_store Try.prog w a (.func (.func f) #[] c) .plain rfl
    obtain ⟨vs0, hvs0⟩ : ∃ vs0, ((List.replicate 20 false).map Value.bool).toArray = vs0 := ⟨_, rfl⟩
    have hmk : ∀ W : World, (Instr.makeSlice 22 (.int .i64 20) (.int .i64 20)).run Try.prog W = .ok (.slice (some ⟨W.heap.size, 0, none⟩) 20 20) (W.alloc (.cells vs0 4)) := fun W => by rw [← hvs0]; exact make_bools 20 (by omega) W
    have HV := Lib.hid hvs0
    have HR := Lib.hid hr
    clear hvs0 hr
    go_enter Try.func7, Try.ntmps7
    go_wp2_with fail
    refine (speaks9x_any _).mono ?_
    rintro e w1 ⟨rfl, b1, hown⟩
    have HO := Lib.hid hown
    clear hown
    go_wp2_with fail
    refine (show Calls Try.prog 28 #[.int .i64 20] _ _ from fresh9_any 20 (by omega) w1).mono ?_
    rintro e w2 ⟨p, c, bn, ba, rfl, ha, b2, hc, hp, hbn, hba, la, ln⟩
    have hz1 := b1.size
    have hz2 := b2.size
    have H2 := Lib.hid (And.intro ha (And.intro b2 (And.intro hc (And.intro hp (And.intro hbn (And.intro hba (And.intro la ln)))))))
    clear ha b2 hc hp hbn hba la ln
    go_upto_region 9 with (fail)
    clear hmf y2 hmk
    obtain ⟨h1, hh1⟩ : ∃ h1, w2.heap.size = h1 := ⟨_, rfl⟩
    obtain ⟨W3, hW3⟩ : ∃ W3, ((w2.alloc (.cells (bxC p 0 1 46 47 #[] #[ptr ba, ptr bn]) 62)).alloc (.cells vs0 4)) = W3 := ⟨_, rfl⟩
    have hbeg : ∃ P : BP, P.Good ∧ P.n = 20 ∧ P.B = w.heap.size ∧ P.p = p ∧ P.ex = [] ∧ Al9 w P h1 ba bn (h1 + 1) 0 0 (.slice none 0 0) (.slice none 0 0) W3 := by
      obtain ⟨Pg, sg, hGg, hBg, hIg, hle⟩ := HO.out
      obtain ⟨ha, b2, hc, hp, hbn, hba, la, ln⟩ := H2.out
      have t12 : Turns [] w1 w2 := Turns.of_below b2 (Nat.le_refl _)
      have t23 : Turns [] w2 W3 := by rw [← hW3]; exact ((Turns.refl _ _).alloc _).alloc _
      have t13 := t12.trans t23
      obtain ⟨v1, u1, how1, hv1, hu1, _⟩ := hIg.ow
      have hx : v1.ownBlock ≠ some bn ∧ u1.ownBlock ≠ some bn := by
        refine ⟨fun e => ?_, fun e => ?_⟩
        · obtain ⟨_, cur, hl⟩ := own_block hv1 e
          have := hl.lt
          omega
        · obtain ⟨_, cur, hl⟩ := own_block hu1 e
          have := hl.lt
          omega
      have keep : ∀ {v : Value} {n : Nat} {xs : List Value}, w1.ownsRow Pg.B 3 1 v n xs → W3.ownsRow w.heap.size 3 1 v n xs := fun hr => by
        rw [← hBg]
        exact own_keep hr fun g hg => by
          obtain ⟨_, cur, hl⟩ := own_block hr hg
          exact t13.block g hl.lt (by simp)
      obtain ⟨v, u, how, hv, hu, hne⟩ := hIg.ow
      have hxv : v.ownBlock ≠ some bn ∧ u.ownBlock ≠ some bn := by
        refine ⟨fun e => ?_, fun e => ?_⟩
        · obtain ⟨_, cur, hl⟩ := own_block hv e
          have := hl.lt
          omega
        · obtain ⟨_, cur, hl⟩ := own_block hu e
          have := hl.lt
          omega
      have lb : Lies W3 h1 62 (bxC p 0 1 46 47 #[] #[ptr ba, ptr bn]) := by rw [← hW3, ← hh1]; exact (Lies.new _ _ _).alloc _
      have ld : Lies W3 (h1 + 1) 4 ((List.replicate 20 false).map Value.bool).toArray := by rw [HV.out, ← hW3]; exact Lies.new_of _ _ (by simp [hh1])
      have hB1 := hGg.low.2.2
      obtain ⟨z1, z2⟩ := Al9.begin (w0 := w) (k := 0) (ha.turn t23 (by simp) (by simp)) (by omega) (how.turn t13 (by simp)) (keep hv) (keep hu) hne hIg.hg hIg.he lb (la.turn t23 (by simp)) (ln.turn t23 (by simp)) (by omega) (by omega) (by rw [← hBg]; exact hB1) hle hxv ld (b1.trans ((b2.mono hz1).trans (t23.below (by simp) (by omega))))
      exact ⟨_, z1, rfl, rfl, rfl, rfl, z2⟩
    obtain ⟨P, hG, gp1, gp2, gp3, gp4, hA⟩ := hbeg
    have HP := Lib.hid (And.intro gp1 (And.intro gp2 (And.intro gp3 gp4)))
    rw [hW3, hh1]
    have hdbB : w.heap.size ≤ h1 + 1 := by omega
    clear hW3 hh1 gp1 gp2 gp3 gp4 HO H2 HV hz1 hz2 b1
    generalize h1 + 1 = db at *
    go_wp2_with fail
    go_loopw [5, 6, 8, 31] (fun mv fv nv iv W => ∃ m nx : Nat, m ≤ n ∧ iv = .int .i64 (m : Int) ∧ nv = .int .i64 (nx : Int) ∧ Al9 w P h1 ba bn db m nx mv fv W) (fun _ _ _ i _ => n - (intOf i).toNat)
    case atStart => exact ⟨0, 0, by omega, rfl, rfl, hA⟩
    case round =>
      clear hA
      obtain ⟨m, nx, hmn, rfl, rfl, hA⟩ := hrel
      generalize wr = W at *
      by_cases hlt : m < n
      · have hbe := hA.be
        rw [HP.out.2.1] at hbe
        obtain ⟨a, rfl, hab, c0, c1, bk, bc⟩ := Acts.at2 (HR.out.keep (Nat.le_refl _) hbe) m hlt
        clear hbe
        generalize F m 0 = kd at *
        generalize F m 1 = cl at *
        go_upto_region 12 with (fail)
        obtain ⟨W5, hW5⟩ : ∃ W5, W.alloc (.cells #[.int .i64 kd, .int .i64 cl] 66) = W5 := ⟨_, rfl⟩
        have k5 : Turns [] W W5 := by rw [← hW5]; exact (Turns.refl _ _).alloc _
        have hA5 := hA.turns hG k5
        obtain ⟨g, hg⟩ : ∃ g, W.heap.size = g := ⟨_, rfl⟩
        have lx : Lies W5 g 66 #[.int .i64 kd, .int .i64 cl] := by rw [← hW5, ← hg]; exact Lies.new _ _ _
        rw [hW5, hg]
        have x0 : W5.cell? ⟨g, 0, none⟩ = some (.int .i64 kd) := lx.cell 0
        have x1 : W5.cell? ⟨g, 1, none⟩ = some (.int .i64 cl) := lx.cell 1
        have hgd : g ≠ db := fun e => by
          obtain ⟨_, h⟩ := hA5.dl
          rw [e] at lx
          exact lx.unlike h (by decide) rfl
        clear hA c0 c1 hab hW5 hg k5 lx
        go_upto_block 2 with (fail)
        go_cut [5, 6, 8, 11, 12, 13] (fun mv' fv' nv' _ _ _ wc => ∃ nx' : Nat, nv' = .int .i64 (nx' : Int) ∧ Al9 w P h1 ba bn db (m + 1) nx' mv' fv' wc)
        case first =>
          have hm60 : m < 60 := by omega
          obtain ⟨s, N, T, all, q, hs, b, f, d, hc⟩ := hA5.at_
          have HC := Lib.hid (And.intro hc (And.intro hA5 HP.out))
          have hAx : bxP P #[ptr ba, ptr bn] = bxV p 0 1 46 47 #[] #[ptr ba, ptr bn] := by rw [← HP.out.2.2.1]
          obtain ⟨c0, c1, c2, c3, c4, c5, c6⟩ := hA5.ctx.cells
          rw [HP.out.2.2.1] at c0 c4
          have lbx := hA5.ctx.box.l.lt
          have ldb := hA5.dl
          rcases (by omega : kd = 0 ∨ kd = 1 ∨ kd ≠ 0 ∧ kd ≠ 1) with rfl | rfl | hk
          · by_cases hn20 : nx < 20
            · have hn20' : (nx : Int) < 20 := by omega
              obtain ⟨Am, cm, rfl, hcm, hrm⟩ := hc.m.row
              obtain ⟨Af, cf, rfl, hcf, hrf⟩ := hc.f.row
              have href := refput9 Am Af b.length f.length cm cf 20 db b f nx d W5 hrm hcm hrf (by obtain ⟨_, h⟩ := ldb; exact h.lt) hc.dead hc.rows (by have := hc.size; have := hA5.nx; omega) (WalkArith.wf_i64 (by omega))
              have HAX := Lib.hid hAx
              clear hc hA5 hcm hrm hcf hrf ldb hAx bk bc
              go_wp2_with fail
              refine href.mono ?_
              rintro e W6 ⟨v1, v2, rfl, r1, r2⟩
              have k6 : Turns [] W5 W6 := Turns.of_below r2.be (Nat.le_refl _)
              have k6z := k6.size
              have k7 : Turns [] W6 (W6.alloc (.cells #[.int .i64 (nx : Int)] 3)) := (Turns.refl _ _).alloc _
              have hPut : (BM P).Makes 6000 (startP [(nx : Int)]) 30 #[bxP P #[ptr ba, ptr bn], .slice (some ⟨W6.heap.size, 0, none⟩) 1 1, .nilFunc] (W6.alloc (.cells #[.int .i64 (nx : Int)] 3)) := HC.out.2.1.code hG HC.out.2.2.1 HC.out.2.2.2.2.2 hn20 (k6.trans k7) k6z (Lies.new _ _ _)
              rw [HAX.out] at hPut
              unfold Gm.Makes at hPut
              have c0 := (k6.cell (p := ⟨h1, 0, none⟩) lbx (by simp)).trans c0
              have c1 := (k6.cell (p := ⟨h1, 1, none⟩) lbx (by simp)).trans c1
              have c2 := (k6.cell (p := ⟨h1, 2, none⟩) lbx (by simp)).trans c2
              have c3 := (k6.cell (p := ⟨h1, 3, none⟩) lbx (by simp)).trans c3
              have c4 := (k6.cell (p := ⟨h1, 4, none⟩) lbx (by simp)).trans c4
              have c5 := (k6.cell (p := ⟨h1, 5, none⟩) lbx (by simp)).trans c5
              have c6 := (k6.cell (p := ⟨h1, 6, none⟩) lbx (by simp)).trans c6
              have HRR := Lib.hid (And.intro r1 (And.intro r2 (And.intro k6 k7)))
              clear href r1 r2 x0 x1 k6 k7
              go_wp2_with fail
              refine hPut.mono ?_
              rintro e W7 ⟨cv, rfl, hcode, t7⟩
              obtain ⟨fv', cap', rfl⟩ := hcode.func rfl
              have hfin := Alc.put hG HC.out.2.2.1 HC.out.1 HC.out.2.1.dl HC.out.2.1.ctx HC.out.2.1.be hn20 hm60 (HRR.out.2.2.1.trans (HRR.out.2.2.2.trans t7)) hcode (HC.out.1.ref hG HRR.out.1 HRR.out.2.1 (HRR.out.2.2.2.trans t7)).1 (HC.out.1.ref hG HRR.out.1 HRR.out.2.1 (HRR.out.2.2.2.trans t7)).2
              have hnt := newtask_any (.func (.func fv') #[] cap') hcode.is W7
              clear hPut hcode t7 c0 c1 c2 c3 c4 c5 c6 lbx
              go_wp2_with fail
              refine hnt.mono ?_
              rintro e W8 ⟨rfl, hW8⟩
              rw [hW8] at hfin
              clear hW8 hnt
              go_wp2_with fail
              refine (show Calls Try.prog 18 #[ptr W7.heap.size, .int .i64 400] _ _ from hfin).mono ?_
              rintro e W9 ⟨rfl, hs9⟩
              clear hfin
              go_wp2_with fail
              go_meet
              case rel => exact ⟨nx + 1, by go_num, hs9⟩
            · have hn20' : ¬ (nx : Int) < 20 := by omega
              clear hc hAx c0 c1 c2 c3 c4 c5 c6 bk bc ldb
              go_wp2_with fail
              go_meet
              case rel => exact ⟨nx, rfl, HC.out.2.1.skip hG⟩
          · have k6 : Turns [] W5 (W5.alloc (.cells #[.slice none 0 0, .slice none 0 0] 72)) := (Turns.refl _ _).alloc _
            have lo : Lies (W5.alloc (.cells #[.slice none 0 0, .slice none 0 0] 72)) W5.heap.size 72 #[.slice none 0 0, .slice none 0 0] := Lies.new _ _ _
            obtain ⟨W6, hW6⟩ : ∃ W6, W5.alloc (.cells #[.slice none 0 0, .slice none 0 0] 72) = W6 := ⟨_, rfl⟩
            rw [hW6] at k6 lo
            have hdr : (BM (P.at W5.heap.size)).Makes 6000 (startD 1) 31 #[bxP P #[ptr ba, ptr bn], .int .i64 1, ptr W5.heap.size] W6 := hc.code hG HC.out.2.2.1 HC.out.2.1.ctx HC.out.2.1.nx k6 (Nat.le_refl _) lo
            obtain ⟨ob, hob⟩ : ∃ ob, W5.heap.size = ob := ⟨_, rfl⟩
            have hob2 : W5.heap.size ≤ ob := by omega
            obtain ⟨Am, cm, rfl, hcm, hrm⟩ := hc.m.row
            have HAX := Lib.hid hAx
            have c0 := (k6.cell (p := ⟨h1, 0, none⟩) lbx (by simp)).trans c0
            have c1 := (k6.cell (p := ⟨h1, 1, none⟩) lbx (by simp)).trans c1
            have c2 := (k6.cell (p := ⟨h1, 2, none⟩) lbx (by simp)).trans c2
            have c3 := (k6.cell (p := ⟨h1, 3, none⟩) lbx (by simp)).trans c3
            have c4 := (k6.cell (p := ⟨h1, 4, none⟩) lbx (by simp)).trans c4
            have c5 := (k6.cell (p := ⟨h1, 5, none⟩) lbx (by simp)).trans c5
            have c6 := (k6.cell (p := ⟨h1, 6, none⟩) lbx (by simp)).trans c6
            rw [hAx] at hdr
            unfold Gm.Makes at hdr
            rw [hob] at hdr lo
            have HK := Lib.hid (And.intro k6 (And.intro lo hob2))
            clear hc hA5 hcm hrm ldb hAx bk bc k6 lo hob2
            go_upto_region 25 with (fail)
            try rw [hW6]
            try rw [hob]
            clear hW6 hob x0 x1
            go_wp2_with fail
            refine hdr.mono ?_
            rintro e W7 ⟨cv, rfl, hcode, t7⟩
            obtain ⟨fv', cap', rfl⟩ := hcode.func rfl
            have hfin := Alc.drain hG HC.out.2.2.1 HC.out.2.2.2.2.2 HC.out.1 HC.out.2.1.dl HC.out.2.1.ctx HC.out.2.1.be HC.out.2.1.nx hm60 (HK.out.1.trans t7) HK.out.2.2 (HK.out.2.1.turn t7 (by simp)) hcode
            have hnt := newtask_any (.func (.func fv') #[] cap') hcode.is W7
            clear hdr hcode t7 c0 c1 c2 c3 c4 c5 c6 lbx
            go_wp2_with fail
            refine hnt.mono ?_
            rintro e W8 ⟨rfl, hW8⟩
            rw [hW8] at hfin
            clear hW8 hnt
            go_wp2_with fail
            refine (show Calls Try.prog 18 #[ptr W7.heap.size, .int .i64 100] _ _ from hfin).mono ?_
            rintro e W9 ⟨rfl, ⟨v9, q9, r9⟩, m9, hs9⟩
            obtain ⟨A9, cc9, rfl, hr9⟩ := r9.row
            obtain ⟨Am', cm', e', _, hrm'⟩ := m9.row
            injection e' with e1 _ e3
            subst e1
            subst e3
            have hsm := rsame_any A9 Am b.length cc9 cm b W9 hr9 hrm'
            have HS := Lib.hid hs9
            clear hfin r9 m9 hr9 hrm' hs9
            go_wp2_with fail
            refine hsm.mono ?_
            rintro e W10 ⟨rfl, b10⟩
            clear hsm
            go_wp2_with fail
            go_meet
            case rel => exact ⟨nx, rfl, HS.out.turns hG (Turns.of_below b10 (Nat.le_refl _))⟩
          · have hk0 : (kd == 0) = false := by simpa using hk.1
            have hk1 : (kd == 1) = false := by simpa using hk.2
            have HK := Lib.hid hk
            clear hk hAx c1 c2 c3 c4 c5 c6
            rcases (by omega : cl < 0 ∨ 0 ≤ cl ∧ (20 ≤ cl ∨ cl < 20)) with hq | ⟨hq, hq' | hq'⟩
            · clear hc hA5 ldb c0
              go_wp2_with fail
              go_meet
              case rel => exact ⟨nx, rfl, HC.out.2.1.skip hG⟩
            · clear hc hA5 ldb c0
              go_wp2_with fail
              go_meet
              case rel => exact ⟨nx, rfl, HC.out.2.1.skip hG⟩
            · obtain ⟨x, rfl⟩ := Int.eq_ofNat_of_zero_le hq
              have hx20 : x < 20 := by omega
              have hne : h1 ≠ db := fun e => by
                obtain ⟨_, h⟩ := ldb
                rw [e] at lbx
                have hbl := HC.out.2.1.ctx.box.l
                rw [e] at hbl
                exact hbl.unlike h (by decide) rfl
              have hdi := hc.dead x hx20
              obtain ⟨csd, ldd⟩ := ldb
              have hfz : W5.frozen? ⟨db, x, none⟩ = false := ldd.frozen x
              have k6 : Turns [db] W5 (W5.setCell ⟨db, x, none⟩ (.bool true)) := (Turns.refl _ _).setCell (.inl (by simp)) _
              have hdd := Alc.dies hG HC.out.2.2.1 HC.out.2.2.2.2.2 hc ⟨_, ldd⟩ HC.out.2.1.ctx HC.out.2.1.be (by rw [HC.out.2.2.2.1]; exact hdbB) HC.out.2.1.nx hm60 hx20 k6 (fun i hi => by
                by_cases e : i = x
                · subst e
                  rw [if_pos rfl]
                  exact World.cell?_setCell_same _ _ _ hdi
                · rw [if_neg e]
                  exact World.cell?_setCell_other _ _ _ _ (fun e2 => e (by injection e2 with _ e3 _; exact e3.symm))) ⟨_, ldd.set x _⟩
              rw [HC.out.2.2.2.2.1] at hdd
              have c0 := (k6.cell (p := ⟨h1, 0, none⟩) lbx (by simp [hne])).trans c0
              obtain ⟨W6, hW6⟩ : ∃ W6, W5.setCell ⟨db, x, none⟩ (.bool true) = W6 := ⟨_, rfl⟩
              rw [hW6] at hdd c0
              have HDD := Lib.hid hdd
              have y1 := (World.cell?_setCell_far W5 ⟨db, x, none⟩ ⟨g, 1, none⟩ (.bool true) (Ne.symm hgd)).trans x1
              rw [hW6] at y1
              have e22 : IntKind.i64.wrap (22 + (x : Int)) = 22 + (x : Int) := IntWalk.i64_in _ (by omega)
              clear hc hA5 k6 hdd
              go_upto_region 15 with (fail)
              try rw [hW6]
              clear hW6 x0 x1 hdi hfz
              go_wp2_with fail
              refine HDD.out.mono ?_
              rintro e W7 ⟨⟨v7, rfl⟩, hs7⟩
              have HS := Lib.hid hs7
              clear hs7
              go_wp2_with fail
              go_meet
              case rel => exact ⟨nx, rfl, HS.out⟩
        case rest =>
          obtain ⟨nx', rfl, hA9⟩ := hcut
          generalize wc = Y at *
          clear hA5 x0 x1 hgd bk bc
          obtain ⟨b, f, hm, hf, hT1, hT2⟩ := hA9.told hG HP.out.1
          obtain ⟨Am, cm, rfl, hcm, hrm⟩ := hm.row
          obtain ⟨Af, cf, rfl, hcf, hrf⟩ := hf.row
          have hAx : bxP P #[ptr ba, ptr bn] = bxV p 0 1 46 47 #[] #[ptr ba, ptr bn] := by rw [← HP.out.2.2.1]
          rw [hAx] at hT1
          rw [HP.out.2.2.1] at hT2
          obtain ⟨c0, c1, c2, c3, c4, c5, c6⟩ := hA9.ctx.cells
          rw [HP.out.2.2.1] at c0 c4
          have lbx := hA9.ctx.box.l.lt
          have F := Lib.hid (fun Y' (tu : Turns [] Y Y') => hA9.turns hG tu)
          have hT := hT1 Y (Turns.refl _ _)
          have HT2 := Lib.hid hT2
          have HM := Lib.hid hrm
          have HF := Lib.hid hrf
          clear hA9 hm hf hcm hcf hrm hrf hAx hT1 hT2
          go_wp2_with fail
          refine hT.mono ?_
          rintro e Y1 ⟨v1, rfl, r1, b1⟩
          obtain ⟨A1, cc1, rfl, hr1⟩ := r1.row
          have hsm := rsame_any A1 Am b.length cc1 cm b Y1 hr1 (HM.out.keep (Nat.le_refl _) b1)
          have HB1 := Lib.hid b1
          clear hT r1 hr1 b1
          go_wp2_with fail
          refine hsm.mono ?_
          rintro e Y2 ⟨rfl, b2⟩
          have k2 : Turns [] Y Y2 := (Turns.of_below HB1.out (Nat.le_refl _)).trans (Turns.of_below b2 (Nat.le_refl _))
          have c0 := (k2.cell (p := ⟨h1, 0, none⟩) lbx (by simp)).trans c0
          have c1 := (k2.cell (p := ⟨h1, 1, none⟩) lbx (by simp)).trans c1
          have c2 := (k2.cell (p := ⟨h1, 2, none⟩) lbx (by simp)).trans c2
          have c3 := (k2.cell (p := ⟨h1, 3, none⟩) lbx (by simp)).trans c3
          have c4 := (k2.cell (p := ⟨h1, 4, none⟩) lbx (by simp)).trans c4
          have c5 := (k2.cell (p := ⟨h1, 5, none⟩) lbx (by simp)).trans c5
          have c6 := (k2.cell (p := ⟨h1, 6, none⟩) lbx (by simp)).trans c6
          have hT := HT2.out Y2 k2
          have HK := Lib.hid k2
          clear hsm b2 k2
          go_wp2_with fail
          refine hT.mono ?_
          rintro e Y3 ⟨v3, rfl, r3, b3⟩
          obtain ⟨A3, cc3, rfl, hr3⟩ := r3.row
          have k3 := HK.out.trans (Turns.of_below (L := []) b3 (Nat.le_refl _))
          have hsm := rsame_any A3 Af f.length cc3 cf f Y3 hr3 (HF.out.keep (Nat.le_refl _) (k3.below (by simp) (Nat.le_refl _)))
          have HK3 := Lib.hid k3
          clear hT r3 hr3 b3 k3 c0 c1 c2 c3 c4 c5 c6
          go_wp2_with fail
          refine hsm.mono ?_
          rintro e Y4 ⟨rfl, b4⟩
          have hfin := F.out Y4 (HK3.out.trans (Turns.of_below b4 (Nat.le_refl _)))
          clear hsm b4
          go_wp2
          go_roundw
          case rel => exact ⟨m + 1, nx', by omega, by go_num, rfl, hfin⟩
          case measure => simp [intOf]; omega
      · obtain rfl : m = n := by omega
        have hbe := hA.be
        rw [HP.out.2.1] at hbe
        clear hA
        go_wp2_with fail
        go_ret
        exact ⟨rfl, hbe⟩

end Go.Proofs.Ytgdonejclggjlaa
