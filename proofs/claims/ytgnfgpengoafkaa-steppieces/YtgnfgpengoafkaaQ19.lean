/- The law: picks that are handed in piece by piece do the same as all at once. -/
import Derived.Test.YtgnfgpengoafkaaQ20
import Derived.Deep.RegionHeld3
namespace Go.Proofs.Ytgnfgpengoafkaa
open Go.RowKit

set_option maxRecDepth 100000 in
set_option maxHeartbeats 8000000 in
theorem pieces7_law (A P : Option Addr) (n cp np cpp : Nat) (ct : Nat) (S : Nat → Option Addr × Nat × Nat) (G : Nat → Nat → Nat → Int) (ps : List Int) (w : World) (hg : Grid w A n S G) (hp : Row w .i64 P np ps) (hcp : np ≤ cpp) (hct : ct < 256) :
    Calls Try.prog 5 #[.slice A n cp, .slice P np cpp, .int .u8 ct] w fun e w' => e = .returned (.bool true) ∧ Below w.heap.size w w' := by
  have hmx := hg.most
  have hmp := hp.most
  unfold maxLen at hmx hmp
  cases hf : fewB n S with
  | true =>
    by_cases hlen : np ≤ 200
    · obtain ⟨hn6, h30⟩ := fewB_yes hf
      go_enter Try.func5, Try.ntmps5
      go_wp2_with fail
      refine (speaks7_any _).mono ?_
      rintro e w1 ⟨rfl, hb1⟩
      have cf := few_any A n cp S G w w1 hg hb1
      rw [hf] at cf
      go_wp2_with fail
      refine cf.mono ?_
      rintro e w' ⟨rfl, rfl⟩
      clear cf
      go_wp2_with fail
      refine (new_any 4 w' (by omega) (by omega)).mono ?_
      rintro e w2 ⟨rfl, hm2⟩
      go_wp2_with fail
      refine (new_any 4 w2 (by omega) (by omega)).mono ?_
      rintro e w3 ⟨rfl, hm3⟩
      go_upto_region 7 with (fail)
      have E2 : w2.heap.size = w'.heap.size + 2 := hm2.2.2
      have E3 : w3.heap.size = w2.heap.size + 2 := hm3.2.2
      go_cut [11, 12, 57, 58, 59, 60, 61, 62] (fun x y _ _ _ _ _ _ wc => ∃ bx by', x = .slice (some ⟨bx, 0, none⟩) n n ∧ y = .slice (some ⟨by', 0, none⟩) n n ∧ Fr3 w w'.heap.size n bx by' wc)
      case first =>
        have hm := make_nums n (by omega)
        have F1 := fr3 n hb1 hm2 hm3 (bx := w3.heap.size) (by' := w3.heap.size + 1) (.inl ⟨by omega, by omega⟩)
        have F2 := fr3 n hb1 hm2 hm3 (bx := w3.heap.size + 1) (by' := w3.heap.size) (.inr ⟨by omega, by omega⟩)
        clear E2 E3
        go_region
        all_goals go_wp2
        all_goals (go_meet; case rel => first | exact ⟨_, _, rfl, rfl, F1⟩ | exact ⟨_, _, rfl, rfl, F2⟩)
      case rest =>
        obtain ⟨bx, by', rfl, rfl, hF⟩ := hcut
        simp only [E2, Nat.add_assoc, Nat.reduceAdd]
        clear hm2 hm3 hb1 E2 E3
        generalize w'.heap.size = N at *
        have hsz := hF.size
        have hle := hF.le
        have hxy := hF.xy
        obtain ⟨LL, hLL⟩ : ∃ LL, [N, N + 1, N + 2, N + 3, N + 4, N + 5] = LL := ⟨_, rfl⟩
        have hLLge : ∀ b, b ∈ LL → w.heap.size ≤ b := fun b hb => by rw [← hLL] at hb; simp at hb; omega
        have hLLlt : ∀ b, b ∈ LL → b < wc.heap.size := fun b hb => by rw [← hLL] at hb; simp at hb; omega
        have hB1 : Blocks w.heap.size (N + 1) N bx LL := ⟨by rw [← hLL]; simp, by rw [← hLL]; simp, by rw [← hLL]; simp; omega⟩
        have hB2 : Blocks w.heap.size (N + 3) (N + 2) by' LL := ⟨by rw [← hLL]; simp, by rw [← hLL]; simp, by rw [← hLL]; simp; omega⟩
        have ok1 : (AM w.heap.size (N + 1) N bx n LL).Ok := am_ok hB1.p hB1.c hB1.s
        have ok2 : (AM w.heap.size (N + 3) (N + 2) by' n LL).Ok := am_ok hB2.p hB2.c hB2.s
        obtain ⟨xss, hxss⟩ : ∃ xss, (fun i => actsL (S i).2.1 (G i)) = xss := ⟨_, rfl⟩
        have P0 : Pcs w LL N n bx by' xss (.slice none 0 0) (.slice none 0 0) (fun _ => 0) (fun _ => 0) 0 0 wc := ⟨Tasks.nil _ _ _ _, Tasks.nil _ _ _ _, hF.a1, hF.a2, hF.be, fun k l hk => by omega, fun _ => rfl, fun _ => rfl, hLLlt⟩
        clear hF hLLlt hsz
        go_wp2_with fail
        go_loopw [13, 14, 65] (fun v1 v2 u wr => ∃ (i : Nat) (t1 t2 : Nat → Nat), i ≤ n ∧ u = .int .i64 i ∧ Pcs w LL N n bx by' xss v1 v2 t1 t2 i i wr) (fun _ _ u _ => n - (intOf u).toNat)
        case atStart => exact ⟨0, _, _, by omega, rfl, P0⟩
        case round =>
          clear P0
          obtain ⟨i, t1, t2, hin, rfl, hP⟩ := hrel
          by_cases hlt : i < n
          · obtain ⟨a, rfl, ha, _⟩ := hg.at_ (by omega)
            have hcell := hg.below hP.be hlt rfl
            have hac := hg.acts i hlt
            have hxl : (xss i).length = (S i).2.1 := by rw [← hxss]; exact actsL_length _ _
            have hA1 := hac.1.in_ hP.be hLLge
            rw [show actsL (S i).2.1 (G i) = xss i by rw [← hxss]] at hA1
            have cc1 := codes_for (ns := n) hB1 1000 (xss i) (S i).1 (S i).2.2 i wr hA1 (by rw [hxl]; exact hac.2) hlt hP.lll hP.be.size
            rw [hxl] at cc1
            have hst : ∀ W, Below w.heap.size w W → ActsIn W w.heap.size LL (S i).1 (xss i) := fun W hW => by
              have := hac.1.in_ hW hLLge
              rwa [show actsL (S i).2.1 (G i) = xss i by rw [← hxss]] at this
            have hcap := hac.2
            clear hA1 hac
            generalize (S i).1 = sA at *
            generalize (S i).2.1 = sn at *
            generalize (S i).2.2 = sc at *
            go_wp2_with fail
            refine cc1.mono ?_
            rintro e w5 ⟨c1, rfl, hc5, hb5⟩
            have hP5 := hP.grow (Turns.of_below hb5 (Nat.le_refl _))
            have hcode := hc5.code
            clear cc1 hcell
            go_wp2_with fail
            refine (newtask_any c1 hcode w5).mono ?_
            rintro e w6 ⟨rfl, rfl⟩
            have PU : ∀ v' w7, VRow w7 w.heap.size 38 v' (((List.range i).map fun j => ptr (t1 j)) ++ [ptr w5.heap.size]) → Turns (Value.ownBlock _).toList (w5.alloc (.cells #[c1, .int .i64 0] 71)) w7 → Pcs w LL N n bx by' xss v' _ (updF t1 i w5.heap.size) t2 (i + 1) i w7 := fun v' w7 h1 h2 => hP5.push1 hc5 h1 h2
            have VR := (hP5.grow ((Turns.refl [] w5).alloc (.cells #[c1, .int .i64 0] 71))).one.row
            have hB6 := (hP5.grow ((Turns.refl [] w5).alloc (.cells #[c1, .int .i64 0] 71))).be.size
            clear hc5 hP5 hb5 hcode
            generalize (w5.alloc (.cells #[c1, .int .i64 0] 71)) = w6 at *
            generalize w5.heap.size = tt at *
            have VR : VRow w6 w.heap.size 38 _ ((List.range i).map fun j => ptr (t1 j)) := VR
            go_wp2_with (first | (at_builtin; refine wpList_vrow (E := 38) (T := 35) (z := .pointer none) (u := ptr tt) Try.underlying35 task_info rfl rfl VR hB6 (by simp; omega) (by rfl) (.tmp 70) (.tmp 78) rfl rfl rfl ?_; intro v1' w7 hv7 ht7) | fail)
            have hP7 := PU v1' w7 hv7 ht7
            clear PU VR hB6 hv7 ht7
            have cc2 := codes_for (ns := n) hB2 1000 (xss i) sA sc i w7 (hst w7 hP7.be) (by rw [hxl]; exact hcap) hlt hP7.lll hP7.be.size
            rw [hxl] at cc2
            refine cc2.mono ?_
            rintro e w8 ⟨c2, rfl, hc8, hb8⟩
            have hP8 := hP7.grow (Turns.of_below hb8 (Nat.le_refl _))
            have hcode := hc8.code
            clear cc2
            go_wp2_with fail
            refine (newtask_any c2 hcode w8).mono ?_
            rintro e w9 ⟨rfl, rfl⟩
            have PU : ∀ v' w10, VRow w10 w.heap.size 38 v' (((List.range i).map fun j => ptr (t2 j)) ++ [ptr w8.heap.size]) → Turns (Value.ownBlock _).toList (w8.alloc (.cells #[c2, .int .i64 0] 71)) w10 → Pcs w LL N n bx by' xss _ v' (updF t1 i tt) (updF t2 i w8.heap.size) (i + 1) (i + 1) w10 := fun v' w10 h1 h2 => hP8.push2 hc8 h1 h2
            have VR := (hP8.grow ((Turns.refl [] w8).alloc (.cells #[c2, .int .i64 0] 71))).two.row
            have hB9 := (hP8.grow ((Turns.refl [] w8).alloc (.cells #[c2, .int .i64 0] 71))).be.size
            clear hc8 hP8 hb8 hcode hP7
            generalize (w8.alloc (.cells #[c2, .int .i64 0] 71)) = w9 at *
            generalize w8.heap.size = tt2 at *
            have VR : VRow w9 w.heap.size 38 _ ((List.range i).map fun j => ptr (t2 j)) := VR
            go_wp2_with (first | (at_builtin; refine wpList_vrow (E := 38) (T := 35) (z := .pointer none) (u := ptr tt2) Try.underlying35 task_info rfl rfl VR hB9 (by simp; omega) (by rfl) (.tmp 80) (.tmp 88) rfl rfl rfl ?_; intro v2' w10 hv10 ht10) | fail)
            have hP10 := PU v2' w10 hv10 ht10
            go_roundw
            case rel => exact ⟨i + 1, _, _, by omega, by go_num, hP10⟩
            case measure => simp [intOf]; omega
          · obtain rfl : i = n := by omega
            obtain ⟨k, hk⟩ : ∃ k, k = ct % (np + 1) := ⟨_, rfl⟩
            have hkn : k ≤ np := by have := Nat.mod_lt ct (show 0 < np + 1 by omega); omega
            have EK := Lib.hid (show (ct : Int) % ((np : Int) + 1) = k by rw [hk]; push_cast; rfl)
            obtain ⟨A1, cp1, rfl, s1⟩ := side_of hP.one hP.a1
            obtain ⟨A2, cp2, rfl, s2⟩ := side_of hP.two hP.a2
            have hbe := hP.be
            have hapt := hP.apt
            have hpl := hp.len
            clear hP hlt hin hk
            have hR1 := hp.x (W := wr) hbe (s1.low (by omega) (by omega) (by omega))
            have c1 := s1.run ok1 P cp1 np cpp ps hR1 (by omega) rfl (fun i _ => by show 0 + np < _; omega)
            go_upto_region 16 with (fail)
            rw [EK.out]
            go_wp2_with fail
            refine c1.mono ?_
            rintro e w5 ⟨rfl, s1', tu5, mo5⟩
            have s2' := apart2 s1 s2 tu5 mo5 hapt hB1.p hB1.c hB1.s hB2.p hB2.c hB2.s (by simp; omega) (by simp; omega) (by simp; omega)
            have hbe5 := hbe.trans (tu5.below (s1.low (by omega) (by omega) (by omega)) hbe.size)
            clear s1 s2 hR1 c1 tu5 mo5 hbe
            have sl1 := slice_to (e := 3) Try.underlying23 (by kernel_rfl) P np cpp k (by omega)
            have sl2 := slice_from (e := 3) Try.underlying23 (by kernel_rfl) P np cpp k hkn
            have rw1 := hp.take (cp := cpp) hkn _ rfl
            have rw2 := hp.drop hkn hcp _ rfl
            generalize (if cpp = 0 then P else P.map (·.add 0)) = P1 at *
            generalize (if cpp = k then P else P.map (·.add k)) = P2 at *
            have hR2 := rw1.x (W := w5.drew) (hbe5.drew) (s2'.low (by omega) (by omega) (by omega))
            have s2d : Side w.heap.size (N + 3) (N + 2) by' i LL A2 t2 1000 (cfg0 xss) w5.drew := s2'.turns (L := []) ((Turns.refl _ _).drew) (Moves.of_turns (L' := []) ((Turns.refl _ _).drew) (by simp)) (by simp) (by simp) (by simp) (by simp) (by simp)
            have c2 := s2d.run ok2 P1 cp2 k cpp (ps.take k) hR2 (by omega) rfl (fun i _ => by show 0 + k < _; omega)
            clear s2' hR2
            obtain ⟨m1, hm1⟩ : ∃ m1, (pickTo (AM w.heap.size (N + 1) N bx i LL) i (cfg0 xss) ps np).n = m1 := ⟨_, rfl⟩
            rw [hm1]
            have HM1 := Lib.hid hm1
            have hm1b := pickTo_n (M := AM w.heap.size (N + 1) N bx i LL) (N := i) (cfg0 xss) ps np (by omega)
            rw [hm1, show (cfg0 xss).n = 0 from rfl] at hm1b
            clear hm1
            obtain ⟨m2, hm2⟩ : ∃ m2, (pickTo (AM w.heap.size (N + 3) (N + 2) by' i LL) i (cfg0 xss) (ps.take k) k).n = m2 := ⟨_, rfl⟩
            have hm2b := pickTo_n (M := AM w.heap.size (N + 3) (N + 2) by' i LL) (N := i) (cfg0 xss) (ps.take k) k (by simp; omega)
            rw [hm2, show (cfg0 xss).n = 0 from rfl] at hm2b
            rw [hm2] at c2
            have HM2 := Lib.hid hm2
            clear hm2
            obtain ⟨k2, hk2⟩ : ∃ k2, pickTo (AM w.heap.size (N + 3) (N + 2) by' i LL) i (cfg0 xss) (ps.take k) k = k2 := ⟨_, rfl⟩
            obtain ⟨k3, hk3⟩ : ∃ k3, pickTo (AM w.heap.size (N + 3) (N + 2) by' i LL) i ⟨k2.s, k2.q, k2.d, 0⟩ (ps.drop k) (np - k) = k3 := ⟨_, rfl⟩
            have hpp := pick_pieces (AM w.heap.size (N + 3) (N + 2) by' i LL) i (cfg0 xss) ps k k2 k3 (by rw [← hk2]; simp [hpl, hkn]) (by rw [← hk3]; simp [hpl])
            rw [hpl] at hpp
            have HPP : Hid (pickTo (AM w.heap.size (N + 1) N bx i LL) i (cfg0 xss) ps np = ⟨k3.s, k3.q, k3.d, k2.n + k3.n⟩) := Lib.hid (by rw [← hpp]; exact pick_same _ _ _)
            have hd2 : ∀ j, k2.d j ≤ 0 + k := fun j => by rw [← hk2]; exact pickTo_d (M := AM w.heap.size (N + 3) (N + 2) by' i LL) (N := i) (cfg0 xss) (ps.take k) j k (by simp; omega)
            obtain ⟨m3, hm3⟩ : ∃ m3, k3.n = m3 := ⟨_, rfl⟩
            have hm3b := pickTo_n (M := AM w.heap.size (N + 3) (N + 2) by' i LL) (N := i) ⟨k2.s, k2.q, k2.d, 0⟩ (ps.drop k) (np - k) (by simp; omega)
            rw [hk3, hm3] at hm3b
            have HK2 := Lib.hid hk2
            have HK3 := Lib.hid hk3
            have HM3 := Lib.hid hm3
            rw [hk2] at c2
            have hsum : (((m2 : Int) + (m3 : Int)) == (m1 : Int)) = true := by
              have e1 := HM1.out
              rw [HPP.out] at e1
              have e2 := HM2.out
              rw [hk2] at e2
              have e1 : k2.n + k3.n = m1 := e1
              simp
              omega
            have hw1 : IntKind.i64.wrap (m1 : Int) = m1 := by rw [IntKind.wrap_i64]; omega
            have hsum3 : (m2 : Int) + (m3 : Int) = (m1 : Int) := by simpa using hsum
            clear hpp hk2 hk3 hm3
            go_wp2_with fail
            go_region_held3 (fun _ => True) (trivial)
              (first
                | (go_at_call 15
                   refine c2.mono ?_
                   rintro e w6 ⟨rfl, s26, tu6, mo6⟩
                   clear c2
                   have be6 := hbe5.drew.trans (tu6.below (s2d.low (by omega) (by omega) (by omega)) (by have := hbe5.size; exact this))
                   have c3 := s26.zero.run ok2 P2 cp2 (np - k) (cpp - k) (ps.drop k) (rw2.x (W := w6) be6 (s26.zero.low (by omega) (by omega) (by omega))) (by omega) rfl (fun j _ => by have := hd2 j; show k2.d j + (np - k) < _; omega)
                   rw [HK3.out, HM3.out] at c3)
                | (go_at_call 15
                   refine c3.mono ?_
                   rintro e w7 ⟨rfl, s27, tu7, mo7⟩))
            rw [HPP.out] at s1'
            have s1d := s1'.turns (L := []) (W' := w5.drew) ((Turns.refl _ _).drew) (Moves.of_turns (L' := []) ((Turns.refl _ _).drew) (by simp)) (by simp) (by simp) (by simp) (by simp) (by simp)
            have s16 := apart2 s2d s1d tu6 mo6 (fun a b ha hb e => hapt b a hb ha e.symm) hB2.p hB2.c hB2.s hB1.p hB1.c hB1.s (by simp; omega) (by simp; omega) (by simp; omega)
            have s17 := apart2 s26.zero s16 tu7 mo7 (fun a b ha hb e => hapt b a hb ha e.symm) hB2.p hB2.c hB2.s hB1.p hB1.c hB1.s (by simp; omega) (by simp; omega) (by simp; omega)
            have be7 := be6.trans (tu7.below (s26.zero.low (by omega) (by omega) (by omega)) be6.size)
            have hFin : FinS w LL N i bx by' A1 A2 t1 t2 _ _ _ _ w7 := ⟨s17, s27, be7⟩
            clear s1' s1d s16 s17 s2d s26 s27 tu6 tu7 mo6 mo7 be6 be7 hbe5 hapt rw1 rw2 sl1 sl2 c3 HM1 HM2 HM3 HPP HK2 HK3 hd2 hp EK
            go_wp2_with fail
            go_loopw [115] (fun u wr2 => ∃ j : Nat, j ≤ i ∧ u = .int .i64 j ∧ FinS w LL N i bx by' A1 A2 t1 t2 (1000 - np) (1000 - k - (np - k)) ⟨k3.s, k3.q, k3.d, k2.n + k3.n⟩ k3 wr2) (fun u _ => i - (intOf u).toNat)
            case atStart => exact ⟨0, by omega, rfl, hFin⟩
            case round =>
              clear hFin
              obtain ⟨j, hji, rfl, hFn⟩ := hrel
              by_cases hlt : j < i
              · have hFd := hFn.grow (W' := World.drew _) ((Turns.refl _ _).drew)
                obtain ⟨a1, rfl, ga1, _, _, ca1⟩ := hFn.s1.row.at_ (by omega)
                obtain ⟨a2, rfl, ga2, _, _, ca2⟩ := hFn.s2.row.at_ (by omega)
                have r1 := ca1 j hlt
                have r2 := ca2 j hlt
                have x1 := hFn.s1.ai.sum.cell j
                have x2 := hFn.s2.ai.sum.cell j
                rw [show (sumsV i k3.s.x)[j]? = some (.int .u64 (k3.s.x j)) from vec_at hlt] at x1 x2
                have c5 := steps_any (hFd.s1.all.tk j hlt)
                have c6 := steps_any (hFd.s2.all.tk j hlt)
                have c7 := ended_any (hFd.s1.all.tk j hlt)
                have c8 := ended_any (hFd.s2.all.tk j hlt)
                obtain ⟨bb, hbb⟩ : ∃ bb, (AM w.heap.size (N + 3) (N + 2) by' i LL).ended (k3.q j) = bb := ⟨_, rfl⟩
                have hbb1 : (AM w.heap.size (N + 1) N bx i LL).ended (k3.q j) = bb := hbb
                rw [hbb1] at c7
                rw [hbb] at c8
                clear hbb hbb1 ca1 ca2
                have HFd := Lib.hid hFd
                clear hFd hFn
                generalize k3.d j = dd at *
                generalize k3.s.x j = xv at *
                generalize t1 j = T1 at *
                generalize t2 j = T2 at *
                go_wp2_with fail
                go_region_held3 (fun W' => W'.cell? ⟨bx, j, none⟩ = some (.int .u64 xv) ∧ W'.cell? ⟨by', j, none⟩ = some (.int .u64 xv) ∧ W'.cell? (a1.add j) = some (ptr T1) ∧ W'.cell? (a2.add j) = some (ptr T2))
                  (first | exact ⟨x1, x2, r1, r2⟩)
                  (first
                    | (go_at_call 18
                       refine c5.mono ?_
                       rintro e w8 ⟨rfl, rfl⟩
                       clear c5)
                    | (go_at_call 18
                       refine c6.mono ?_
                       rintro e w8 ⟨rfl, rfl⟩)
                    | (go_at_call 16
                       refine c7.mono ?_
                       rintro e w8 ⟨rfl, rfl⟩
                       clear c7)
                    | (go_at_call 16
                       refine c8.mono ?_
                       rintro e w8 ⟨rfl, rfl⟩))
                go_wp2
                go_roundw
                case rel => exact ⟨j + 1, by omega, by go_num, HFd.out⟩
                case measure => simp [intOf]; omega
              · obtain rfl : j = i := by omega
                have ar1 := hFn.s1.ai.ar
                have ar2 := hFn.s2.ai.ar
                have be11 := hFn.be
                have ar1 : Arena _ (N + 1) N k3.s.l k3.s.k := ar1
                generalize k3.s.l = ll at *
                generalize k3.s.k = kk at *
                have hlm := ar1.most
                clear hFn
                go_wp2_with fail
                refine (all_any _ _ _ _ _ ar1).mono ?_
                rintro e w12 ⟨rfl, h12⟩
                obtain ⟨l12, b12, s12⟩ := h12
                have ar3 := ar2.below b12 ar2.head.lt ar2.body.lt
                have be12 := be11.trans (b12.mono be11.size)
                generalize hsl : wr.heap.size = SL at *
                clear ar1 ar2 be11 b12 hsl
                go_wp2_with fail
                go_loopw [157] (fun u wr3 => ∃ m : Nat, m ≤ ll.length ∧ u = .int .i64 m ∧ Below w12.heap.size w12 wr3) (fun u _ => ll.length - (intOf u).toNat)
                case atStart => exact ⟨0, by omega, rfl, Below.refl _ _⟩
                case round =>
                  obtain ⟨m, hm, rfl, hbr⟩ := hrel
                  by_cases hlt : m < ll.length
                  · have e1 := (l12.below hbr l12.lt).cell m
                    rw [nums_at hlt] at e1
                    have ar4 := ar3.below hbr ar3.head.lt ar3.body.lt
                    have c1 := all_any _ _ _ _ _ ar4
                    have hy : ∀ w13, Told wr ll w13 → w13.cell? ⟨wr.heap.size, m, none⟩ = some (.int .u64 (getA ll m)) := fun w13 h => by
                      have := h.1.cell m
                      rwa [nums_at hlt] at this
                    generalize getA ll m = y at *
                    clear ar4
                    go_wp2_with fail
                    refine c1.mono ?_
                    rintro e w13 ⟨rfl, h13⟩
                    have e2 := hy w13 h13
                    have b13 := Lib.hid (hbr.trans (h13.2.1.mono hbr.size))
                    generalize wr.heap.size = S2 at *
                    clear h13 hy c1
                    go_wp2
                    go_roundw
                    case rel => exact ⟨m + 1, by omega, by go_num, b13.out⟩
                    case measure => simp [intOf]; omega
                  · obtain rfl : m = ll.length := by omega
                    go_wp2
                    go_ret
                    exact ⟨rfl, be12.trans (hbr.mono be12.size)⟩
    · go_enter Try.func5, Try.ntmps5
      go_wp2_with fail
      refine (speaks7_any _).mono ?_
      rintro e w1 ⟨rfl, hb1⟩
      have cf := few_any A n cp S G w w1 hg hb1
      rw [hf] at cf
      go_wp2_with fail
      refine cf.mono ?_
      rintro e w' ⟨rfl, rfl⟩
      clear cf
      go_wp2_with fail
      refine (speaks7_any _).mono ?_
      rintro e w2 ⟨rfl, hb2⟩
      go_wp2
      go_ret
      exact ⟨rfl, hb1.trans (hb2.mono hb1.size)⟩
  | false =>
    go_enter Try.func5, Try.ntmps5
    go_wp2_with fail
    refine (speaks7_any _).mono ?_
    rintro e w1 ⟨rfl, hb1⟩
    have cf := few_any A n cp S G w w1 hg hb1
    rw [hf] at cf
    go_wp2_with fail
    refine cf.mono ?_
    rintro e w' ⟨rfl, rfl⟩
    clear cf
    go_wp2_with fail
    refine (speaks7_any _).mono ?_
    rintro e w2 ⟨rfl, hb2⟩
    go_wp2
    go_ret
    exact ⟨rfl, hb1.trans (hb2.mono hb1.size)⟩

theorem pieces7_nat (A P : Option Addr) (n cp np cpp : Nat) (ct : Int) (S : Nat → Option Addr × Nat × Nat) (G : Nat → Nat → Nat → Int) (ps : List Int) (w : World) (hg : Grid w A n S G) (hp : Row w .i64 P np ps) (hcp : np ≤ cpp) (hct : 0 ≤ ct ∧ ct < 256) :
    Calls Try.prog 5 #[.slice A n cp, .slice P np cpp, .int .u8 ct] w fun e w' => e = .returned (.bool true) ∧ Below w.heap.size w w' := by
  obtain ⟨ct', rfl⟩ := Int.eq_ofNat_of_zero_le hct.1
  exact pieces7_law A P n cp np cpp ct' S G ps w hg hp hcp (by omega)

end Go.Proofs.Ytgnfgpengoafkaa
