/- The law: whatever tasks do, and in whatever order they are picked, all is as the document says. -/
import Derived.Test.YtbkopghghoolmaaZ4
import Derived.Deep.RegionHeld3
namespace Go.Proofs.Ytbkopghghoolmaa
open Go.RowKit

section
variable {B p c sb n : Nat} {LL : List Nat} {xss : Nat → List Act4}
theorem pick_len (k : Cfg ASt (Nat × List Act4)) (i : Int) : (pick1 (AM B p c sb n LL) n k i).s.l.length = k.s.l.length := by
  unfold pick1
  split
  · show ((AM B p c sb n LL).step (k.q i.toNat) k.s).2.l.length = _
    show (match (k.q i.toNat).2 with | [] => (k.q i.toNat, k.s) | a :: r => (((k.q i.toNat).1, r), act1 k.s (k.q i.toNat).1 a)).2.l.length = _
    split
    · rfl
    · exact act1_len _ _ _
  · rfl
theorem pickTo_len (ps : List Int) : ∀ m, m ≤ ps.length → (pickTo (AM B p c sb n LL) n (cfg0 xss) ps m).s.l.length = 4
  | 0, _ => by simp [pickTo, cfg0, zeroS]
  | m + 1, h => by rw [pickTo_succ _ _ _ _ _ (by omega), pick_len]; exact pickTo_len ps m (by omega)
end

/-- both kinds of tasks, and what lay there. -/
structure FinR (w : World) (LL : List Nat) (N V gg cap g n : Nat) (A : Option Addr) (t1 : Nat → Nat) (Sl : Nat → Option Addr × Nat × Nat) (m : Nat) (k0 k : Cfg ASt (Nat × List Act4)) (W : World) : Prop where
  s1 : Side w.heap.size (N + 1) N (V + 1) n LL A t1 m k0 W
  md : Lies W V 32 #[.slice (some ⟨gg, 0, none⟩) 4 cap, .int .i64 k.s.k]
  hh : Held (V + 1) W gg k.s.l
  rt : 0 < n → RT W g n Sl k.d k.s.x
  be : Below w.heap.size w W

section
variable {w : World} {LL : List Nat} {N V gg cap g n : Nat} {A : Option Addr} {t1 : Nat → Nat} {Sl : Nat → Option Addr × Nat × Nat} {m m' : Nat} {k0 k1 k : Cfg ASt (Nat × List Act4)} {W W' : World}
theorem FinR.grow (h : FinR w LL N V gg cap g n A t1 Sl m k0 k W) (q : Turns [] W W') : FinR w LL N V gg cap g n A t1 Sl m k0 k W' :=
  ⟨h.s1.turns q (Moves.of_turns q (by simp)) (by simp) (by simp) (by simp) (by simp) (by simp), h.md.turn q (by simp), h.hh.turn q (by simp), fun hn => (h.rt hn).keep (q.block _ (h.rt hn).lt (by simp)), h.be.trans (q.below (by simp) h.be.size)⟩

theorem FinR.run (h : FinR w LL N V gg cap g n A t1 Sl m k0 k W) (s : Side w.heap.size (N + 1) N (V + 1) n LL A t1 m' k1 W') (q : Turns (tsL n t1 ++ (AM w.heap.size (N + 1) N (V + 1) n LL).L) W W') (hN : w.heap.size ≤ N) (hV : w.heap.size ≤ V) :
    FinR w LL N V gg cap g n A t1 Sl m' k1 k W' := by
  have no : ∀ {b : Nat} {t : TypeId} {cs : Array Value}, Lies W b t cs → t ≠ 67 → t ≠ 65 → t ≠ 78 → b ≠ V + 1 → b ∉ tsL n t1 ++ (AM w.heap.size (N + 1) N (V + 1) n LL).L := by
    intro b t cs hl n1 n2 n3 n4 hm
    rcases List.mem_append.1 hm with h1 | h1
    · obtain ⟨i, hi, rfl⟩ := tsL_mem.1 h1
      obtain ⟨u, h2, _⟩ := (h.s1.all.tk i hi).at_
      exact hl.unlike h2 n1 rfl
    · have h1 : b ∈ [N + 1, N, V + 1] := h1
      simp at h1
      rcases h1 with rfl | rfl | rfl
      · exact hl.unlike h.s1.ai.ar.head n2 rfl
      · exact hl.unlike h.s1.ai.ar.body n3 rfl
      · exact n4 rfl
  refine ⟨s, h.md.turn q (no h.md (by decide) (by decide) (by decide) (by omega)), ?_, fun hn => ?_, h.be.trans (q.below (h.s1.low (by omega) (by omega) (by omega)) h.be.size)⟩
  · obtain ⟨cur, hl, _, _, hx⟩ := h.hh
    exact h.hh.turn q (no hl (by decide) (by decide) (by decide) hx)
  · have hr := h.rt hn
    obtain ⟨cur, hl, _⟩ := hr.at_
    refine hr.keep (q.block _ hr.lt (no hl (by decide) (by decide) (by decide) ?_))
    exact hl.unlike h.s1.ai.sum (by decide)

theorem FinR.put (h : Side w.heap.size (N + 1) N (V + 1) n LL A t1 m k0 W) {x y : Value} (hm : Lies W V 32 #[x, y]) (hh : Held (V + 1) W gg k.s.l) (hr : 0 < n → RT W g n Sl k.d k.s.x) (hb : Below w.heap.size w W) (hV : w.heap.size ≤ V) (hL : V ∈ LL) :
    FinR w LL N V gg cap g n A t1 Sl m k0 k ((W.setCell ⟨V, 0, none⟩ (.slice (some ⟨gg, 0, none⟩) 4 cap)).setCell ⟨V, 1, none⟩ (.int .i64 k.s.k)) := by
  have q : Turns [V] W ((W.setCell ⟨V, 0, none⟩ (.slice (some ⟨gg, 0, none⟩) 4 cap)).setCell ⟨V, 1, none⟩ (.int .i64 k.s.k)) := ((Turns.refl [V] W).setCell (p := ⟨V, 0, none⟩) (.inl (by simp)) _).setCell (p := ⟨V, 1, none⟩) (.inl (by simp)) _
  have no : ∀ {b : Nat} {t : TypeId} {cs : Array Value}, Lies W b t cs → t ≠ 32 → b ∉ [V] := fun hl hne hb => by
    simp at hb
    subst hb
    exact hl.unlike hm hne rfl
  refine ⟨h.turns q (Moves.of_turns q (fun b hb => .inl (by simp at hb; subst hb; exact hL))) (fun i hi => ?_) (no h.ai.ar.head (by decide)) (no h.ai.ar.body (by decide)) (no h.ai.sum (by decide)) (fun b hb => ?_), ?_, ?_, fun hn => ?_, hb.trans (q.below (by simp; omega) hb.size)⟩
  · obtain ⟨u, h2, _⟩ := (h.all.tk i hi).at_
    exact no h2 (by decide)
  · simp at hb
    subst hb
    rintro ⟨cur, hc⟩
    exact hm.unlike hc (by decide) rfl
  · have := (hm.set 0 (.slice (some ⟨gg, 0, none⟩) 4 cap)).set 1 (.int .i64 k.s.k)
    simpa using this
  · have h0 := hh
    obtain ⟨cur, hl, _⟩ := hh
    exact h0.turn q (no hl (by decide))
  · obtain ⟨cur, hl, _⟩ := (hr hn).at_
    exact (hr hn).keep (q.block _ hl.lt (no hl (by decide)))
end

set_option maxRecDepth 100000 in
set_option maxHeartbeats 8000000 in
theorem runs7_law (A P : Option Addr) (n cp np cpp : Nat) (S : Nat → Option Addr × Nat × Nat) (G : Nat → Nat → Nat → Int) (ps : List Int) (w : World) (hg : Grid w A n S G) (hp : Row w .i64 P np ps) :
    Calls Try.prog 3 #[.slice A n cp, .slice P np cpp] w fun e w' => e = .returned (.bool true) ∧ Below w.heap.size w w' := by
  have hmx := hg.most
  have hmp := hp.most
  unfold maxLen at hmx hmp
  cases hf : fewB n S with
  | true =>
    by_cases hlen : np ≤ 200
    · obtain ⟨hn6, h30⟩ := fewB_yes hf
      have hmk := make_nums n (by omega)
      go_enter Try.func3, Try.ntmps3
      go_wp2_with fail
      refine (speaks7_any _).mono ?_
      rintro e w1 ⟨rfl, hb1⟩
      have cf := few_any A n cp S G w w1 hg hb1
      rw [hf] at cf
      go_wp2_with fail
      refine cf.mono ?_
      rintro e w' ⟨rfl, rfl⟩
      clear cf
      go_wp2_with fail
      refine (new_any 4 w' (by omega) (by omega)).mono ?_
      rintro e w2 ⟨rfl, hm2⟩
      go_wp2_with fail
      refine (rnew_in 4 w2 (by omega) (by omega)).mono ?_
      rintro e w3 ⟨rfl, h3, hb3⟩
      go_upto_region 8 with (fail)
      have E2 : w2.heap.size = w'.heap.size + 2 := hm2.2.2
      have h3lt := h3.lt
      obtain ⟨LL, hLL⟩ : ∃ LL, [w'.heap.size, w'.heap.size + 1, w3.heap.size, w3.heap.size + 1] = LL := ⟨_, rfl⟩
      obtain ⟨xss, hxss⟩ : ∃ xss, (fun i => actsL (S i).2.1 (G i)) = xss := ⟨_, rfl⟩
      have P0 := sr0 n hb1 hm2 h3 hb3 LL xss S (fun b hb => by rw [← hLL] at hb; simp at hb; have := hb3.size; omega)
      have hsz := hb1.size
      have hs3 := hb3.size
      generalize ((w3.alloc (.cells #[.slice (some ⟨w2.heap.size + 1, 0, none⟩) 4 4, .int .i64 0] 32)).alloc (.cells (nums (List.replicate n 0)) 44)) = w4 at *
      rw [E2] at P0
      simp only [E2, Nat.add_assoc, Nat.reduceAdd] at P0 ⊢
      rw [E2] at h3lt hs3
      clear h3 hb3 hm2 hb1 hmk
      generalize w'.heap.size = N at *
      generalize w3.heap.size = V at *
      have hLLge : ∀ b, b ∈ LL → w.heap.size ≤ b := fun b hb => by rw [← hLL] at hb; simp at hb; omega
      have hB1 : Blocks w.heap.size (N + 1) N (V + 1) LL := ⟨by rw [← hLL]; simp, by rw [← hLL]; simp, by rw [← hLL]; simp⟩
      have hVL : V ∈ LL := by rw [← hLL]; simp
      have ok1 : (AM w.heap.size (N + 1) N (V + 1) n LL).Ok := am_ok hB1.p hB1.c hB1.s
      go_wp2_with fail
      go_loopw [10, 11, 51] (fun v1 v2 u wr => ∃ (i : Nat) (t1 : Nat → Nat), i ≤ n ∧ u = .int .i64 i ∧ SR w LL N V (N + 3) n xss S v1 v2 t1 i i wr) (fun _ _ u _ => n - (intOf u).toNat)
      case atStart => exact ⟨0, _, by omega, rfl, P0⟩
      case round =>
        clear P0
        obtain ⟨i, t1, hin, rfl, hP⟩ := hrel
        by_cases hlt : i < n
        · obtain ⟨a, rfl, ha, _⟩ := hg.at_ (by omega)
          have hcell := hg.below hP.be hlt rfl
          have hac := hg.acts i hlt
          have hxl : (xss i).length = (S i).2.1 := by rw [← hxss]; exact actsL_length _ _
          have hA1 := hac.1.in_ hP.be hLLge
          rw [show actsL (S i).2.1 (G i) = xss i by rw [← hxss]] at hA1
          have cc1 := codes_for (ns := n) hB1 1000 (xss i) (S i).1 (S i).2.2 i wr hA1 (by rw [hxl]; exact hac.2) hlt hP.lll hP.be.size
          rw [hxl] at cc1
          clear hA1 hac
          have HS := Lib.hid (show (Value.slice (S i).1 (S i).2.1 (S i).2.2) = .slice (S i).1 (S i).2.1 (S i).2.2 from rfl)
          obtain ⟨sA, hsA⟩ : ∃ sA, (S i).1 = sA := ⟨_, rfl⟩
          obtain ⟨sn, hsn⟩ : ∃ sn, (S i).2.1 = sn := ⟨_, rfl⟩
          obtain ⟨sc, hsc⟩ : ∃ sc, (S i).2.2 = sc := ⟨_, rfl⟩
          rw [hsA, hsn, hsc] at hcell
          rw [hsA, hsn, hsc] at cc1
          have HA := Lib.hid hsA
          have HN := Lib.hid hsn
          have HC := Lib.hid hsc
          clear hsA hsn hsc hxl HS
          go_wp2_with fail
          refine cc1.mono ?_
          rintro e w5 ⟨c1, rfl, hc5, hb5⟩
          have hP5 := hP.grow (Turns.of_below hb5 (Nat.le_refl _))
          have hcode := hc5.code
          clear cc1 hcell
          go_wp2_with fail
          refine (newtask_any c1 hcode w5).mono ?_
          rintro e w6 ⟨rfl, rfl⟩
          have PU : ∀ v' w7, VRow w7 w.heap.size 38 v' (((List.range i).map fun j => ptr (t1 j)) ++ [ptr w5.heap.size]) → Turns (Value.ownBlock _).toList (w5.alloc (.cells #[c1, .int .i64 0] 67)) w7 → SR w LL N V (N + 3) n xss S v' _ (updF t1 i w5.heap.size) (i + 1) i w7 := fun v' w7 h1 h2 => hP5.push1 hc5 h1 h2
          have VR := (hP5.grow ((Turns.refl [] w5).alloc (.cells #[c1, .int .i64 0] 67))).one.row
          have hB6 := (hP5.grow ((Turns.refl [] w5).alloc (.cells #[c1, .int .i64 0] 67))).be.size
          clear hc5 hP5 hb5 hcode hP
          generalize (w5.alloc (.cells #[c1, .int .i64 0] 67)) = w6 at *
          generalize w5.heap.size = tt at *
          have VR : VRow w6 w.heap.size 38 _ ((List.range i).map fun j => ptr (t1 j)) := VR
          have HU := Lib.hid (show Value.slice sA sn sc = .slice (S i).1 (S i).2.1 (S i).2.2 by rw [HA.out, HN.out, HC.out])
          go_wp2_with (first
            | (at_builtin; refine wpList_vrow (E := 38) (T := 35) (z := .pointer none) (u := ptr tt) Try.underlying35 task_info rfl rfl VR hB6 (by simp; omega) (by rfl) (.tmp 56) (.tmp 64) rfl rfl rfl ?_; intro v1' w7 hv7 ht7; have hP7 := PU v1' w7 hv7 ht7; clear PU VR hB6 hv7 ht7; have R2 := hP7.two; have hB7 := hP7.be.size)
            | (at_builtin; refine wpList_mrow (T := 36) Try.underlying36 R2 HU.out hB7 (by omega) (by rfl) (.tmp 66) (.tmp 69) rfl rfl rfl ?_; intro v2' w8 hv8 ht8)
            | fail)
          have hP8 := hP7.push2 hv8 ht8
          clear R2 hB7 hv8 ht8 hP7
          go_roundw
          case rel => exact ⟨i + 1, _, by omega, by go_num, hP8⟩
          case measure => simp [intOf]; omega
        · obtain rfl : i = n := by omega
          obtain ⟨A1, cp1, rfl, s1⟩ := side_of hP.one hP.a1
          obtain ⟨A2, cp2, rfl, hA2⟩ := hP.two.slice
          have cc := count_any hP.a1.ar
          have hbe := hP.be
          have hgg := hP.hh.lt
          have hvl := hP.lll _ hVL
          have hHd : Held (V + 1) wr (N + 3) [0, 0, 0, 0] := Held.of hP.hh hP.a1.sum.lt (by omega)
          have hRx := hp.x (W := wr) hbe (s1.low (by omega) (by omega) (by omega))
          have hl : ∀ j, j < i → (S j).2.1 = (xss j).length ∧ (xss j).length ≤ 30 := fun j hj => by
            have e1 : (xss j).length = (S j).2.1 := by rw [← hxss]; exact actsL_length _ _
            exact ⟨e1.symm, by rw [e1]; exact h30 j hj⟩
          have hx : ∀ j d x, j < i → (xss j)[d]? = some x → ∃ a, (S j).1 = some a ∧ a.block < wr.heap.size ∧ ActAt wr (a.add (d * 4)) x := fun j d x hj hd => by
            have hA1 := (hg.acts j hj).1.in_ hbe hLLge
            rw [show actsL (S j).2.1 (G j) = xss j by rw [← hxss]] at hA1
            obtain ⟨a, e, h1, _, _, h2⟩ := hA1.at_ (by have := (List.getElem?_eq_some_iff.1 hd).1; omega)
            exact ⟨a, e, h1, h2 d x hd⟩
          have cr := rrun_any (Xo := V + 1) (N + 3) 4 A2 P i cp2 np cpp S xss ps w.heap.size (N + 1) N (V + 1) LL wr hHd hRx.row hlen hn6 hA2 hl hx
          have s0 := hP.md.cell 0
          have s1' := hP.md.cell 1
          have f0 := hP.md.frozen 0
          have f1 := hP.md.frozen 1
          simp at s0 s1'
          have hmd := hP.md
          have hpl := hp.len
          have hkb := pickTo_k (B := w.heap.size) (p := N + 1) (c := N) (sb := V + 1) (n := i) (LL := LL) (xss := xss) ps np (by omega)
          have hnb := pickTo_n (M := AM w.heap.size (N + 1) N (V + 1) i LL) (N := i) (cfg0 xss) ps np (by omega)
          have hll := pickTo_len (B := w.heap.size) (p := N + 1) (c := N) (sb := V + 1) (n := i) (LL := LL) (xss := xss) ps np (by omega)
          have hpi := pinv (B := w.heap.size) (p := N + 1) (c := N) (sb := V + 1) (n := i) (LL := LL) (xss := xss) ps np (by omega)
          have c1 : ∀ W, Side w.heap.size (N + 1) N (V + 1) i LL A1 t1 1000 (cfg0 xss) W → Below w.heap.size w W → _ := fun W hs hb => hs.run ok1 P cp1 np cpp ps (hp.x (W := W) hb (hs.low (by omega) (by omega) (by omega))) (by omega) rfl (fun i _ => by show 0 + np < _; omega)
          generalize hk : pickTo (AM w.heap.size (N + 1) N (V + 1) i LL) i (cfg0 xss) ps np = k at *
          have cr : Calls Try.prog 11 #[.agg #[.slice (some ⟨N + 3, 0, none⟩) 4 4, .int .i64 0], .slice A2 i cp2, .slice P np cpp] wr fun e W' => ∃ gg' cap' g cg, e = .returned (.tuple #[.agg #[.slice (some ⟨gg', 0, none⟩) 4 cap', .int .i64 k.s.k], .slice (some ⟨g, 0, none⟩) i cg, .int .i64 k.n]) ∧ Held (V + 1) W' gg' k.s.l ∧ (0 < i → RT W' g i S k.d k.s.x) ∧ Below wr.heap.size wr W' := cr
          clear hP hlt hin hHd hRx hx hA2
          go_wp2_with fail
          refine cc.mono ?_
          rintro e w5 ⟨rfl, rfl⟩
          clear cc
          go_wp2_with fail
          refine cr.mono ?_
          rintro e w6 ⟨gg', cap', g, cg, rfl, hH6, hR6, hb6⟩
          clear cr
          have d0 := (hb6.cell (p := ⟨V, 0, none⟩) hvl).trans s0
          have d1 := (hb6.cell (p := ⟨V, 1, none⟩) hvl).trans s1'
          have g0 := (hb6.frozen (p := ⟨V, 0, none⟩) hvl).trans f0
          have g1 := (hb6.frozen (p := ⟨V, 1, none⟩) hvl).trans f1
          have tu6 : Turns [] wr w6 := Turns.of_below hb6 (Nat.le_refl _)
          have s6 := s1.turns tu6 (Moves.of_turns tu6 (by simp)) (by simp) (by simp) (by simp) (by simp) (by simp)
          have hF := FinR.put (cap := cap') (k := k) s6 (hmd.turn tu6 (by simp)) hH6 hR6 (hbe.trans (tu6.below (by simp) hbe.size)) (by omega) hVL
          clear s0 s1' f0 f1 hmd s6 tu6 hH6 hR6 hb6 s1 hbe
          go_upto_region 19 with (fail)
          generalize ((w6.setCell ⟨V, 0, none⟩ (.slice (some ⟨gg', 0, none⟩) 4 cap')).setCell ⟨V, 1, none⟩ (.int .i64 k.s.k)) = w7 at *
          clear d0 d1 g0 g1
          have e1 := hF.md.cell 1
          simp at e1
          have c1' := c1 _ (hF.grow (W' := w7.drew) ((Turns.refl _ _).drew)).s1 (hF.grow (W' := w7.drew) ((Turns.refl _ _).drew)).be
          have vlt := hF.md.lt
          have HK := Lib.hid hk
          have HC := Lib.hid c1
          clear hk c1
          go_wp2_with fail
          go_region_held3 (fun W' => W'.cell? ⟨V, 1, none⟩ = some (.int .i64 k.s.k)) (first | exact e1 | exact e2)
            (first
              | (go_at_call 12
                 refine c1'.mono ?_
                 rintro e w8 ⟨rfl, s8, tu8, mo8⟩
                 have hF8 := (hF.grow (W' := w7.drew) ((Turns.refl _ _).drew)).run s8 tu8 (by omega) (by omega)
                 have e2 := hF8.md.cell 1
                 simp at e2
                 have cc := count_any hF8.s1.ai.ar
                 clear c1')
              | (go_at_call 10
                 refine cc.mono ?_
                 rintro e w9 ⟨rfl, rfl⟩))
          clear s8 tu8 mo8 hF cc e1 e2 HC vlt
          go_wp2_with fail
          go_loopw [97] (fun u wr2 => ∃ j : Nat, j ≤ i ∧ u = .int .i64 j ∧ FinR w LL N V gg' cap' g i A1 t1 S (1000 - np) k k wr2) (fun u _ => i - (intOf u).toNat)
          case atStart => exact ⟨0, by omega, rfl, hF8⟩
          case round =>
            clear hF8
            obtain ⟨j, hji, rfl, hFn⟩ := hrel
            by_cases hlt : j < i
            · have hFd := hFn.grow (W' := World.drew _) ((Turns.refl _ _).drew)
              obtain ⟨a1, rfl, ga1, _, _, ca1⟩ := hFn.s1.row.at_ (by omega)
              have r1 := ca1 j hlt
              have x1 := hFd.s1.ai.sum.cell j
              rw [show (sumsV i k.s.x)[j]? = some (.int .u64 (k.s.x j)) from vec_at hlt] at x1
              have hrt := hFd.rt (by omega)
              obtain ⟨tc0, tc1, tc2⟩ := hrt.cells hlt
              rw [show 3 * j = j * 3 by omega] at tc0
              rw [show 3 * j + 1 = j * 3 + 1 by omega] at tc1
              rw [show 3 * j + 2 = j * 3 + 2 by omega] at tc2
              have gl := hrt.lt
              have vl := hFd.s1.ai.sum.lt
              have c7 := ended_any (hFd.s1.all.tk j hlt)
              have hen : (AM w.heap.size (N + 1) N (V + 1) i LL).ended (k.q j) = decide ((S j).2.1 ≤ k.d j) := by
                rw [hpi.q j, am_endedX, (hl j hlt).1]
              rw [hen] at c7
              have cE := fun W => rended_any (S j).1 (S j).2.1 (S j).2.2 (k.d j) (k.s.x j) W _ rfl
              have cS : ∀ W, Below (World.drew _).heap.size (World.drew _) W → _ := fun W hb => steps_any ((hFd.grow (W' := W) (Turns.of_below hb (Nat.le_refl _))).s1.all.tk j hlt)
              generalize decide ((S j).2.1 ≤ k.d j) = bb at *
              clear hen hrt ca1
              have HFd := Lib.hid hFd
              have HFn := Lib.hid hFn
              have HPI := Lib.hid hpi
              have HL := Lib.hid hl
              clear hFd hFn hpi hl
              obtain ⟨sA, hsA⟩ : ∃ sA, (S j).1 = sA := ⟨_, rfl⟩
              obtain ⟨sn, hsn⟩ : ∃ sn, (S j).2.1 = sn := ⟨_, rfl⟩
              obtain ⟨sc, hsc⟩ : ∃ sc, (S j).2.2 = sc := ⟨_, rfl⟩
              rw [hsA, hsn, hsc] at tc0 cE
              clear hsA hsn hsc
              obtain ⟨dd, hdd⟩ : ∃ dd, k.d j = dd := ⟨_, rfl⟩
              rw [hdd] at tc1 cE
              rw [hdd] at cS
              obtain ⟨xv, hxv⟩ : ∃ xv, k.s.x j = xv := ⟨_, rfl⟩
              rw [hxv] at tc2 cE x1
              clear hdd hxv
              obtain ⟨T1, hT1⟩ : ∃ T1, t1 j = T1 := ⟨_, rfl⟩
              rw [hT1] at r1 c7 cS
              clear hT1
              go_wp2_with fail
              go_region_held3 (fun W' => W'.cell? ⟨V + 1, j, none⟩ = some (.int .u64 xv) ∧ W'.cell? ⟨g, j * 3, none⟩ = some (.slice sA sn sc) ∧ W'.cell? ⟨g, j * 3 + 1, none⟩ = some (.int .i64 dd) ∧ W'.cell? ⟨g, j * 3 + 2, none⟩ = some (.int .u64 xv))
                (first | exact ⟨x1, tc0, tc1, tc2⟩ | exact ⟨y1, y2, y3, y4⟩)
                (first
                  | (go_at_call 13
                     refine c7.mono ?_
                     rintro e w8 ⟨rfl, rfl⟩
                     clear c7)
                  | (go_at_call 14
                     refine (cE _).mono ?_
                     rintro e w9 ⟨rfl, hb9⟩
                     have y1 := (hb9.cell (p := ⟨V + 1, j, none⟩) vl).trans x1
                     have y2 := (hb9.cell (p := ⟨g, j * 3, none⟩) gl).trans tc0
                     have y3 := (hb9.cell (p := ⟨g, j * 3 + 1, none⟩) gl).trans tc1
                     have y4 := (hb9.cell (p := ⟨g, j * 3 + 2, none⟩) gl).trans tc2
                     have c5 := cS _ hb9
                     clear cE cS)
                  | (go_at_call 15
                     refine c5.mono ?_
                     rintro e w10 ⟨rfl, rfl⟩
                     clear c5))
              clear y1 y2 y3 y4 x1 tc0 tc1 tc2 r1
              have HF9 := Lib.hid (HFd.out.grow (Turns.of_below hb9 (Nat.le_refl _)))
              clear hb9
              go_wp2
              go_roundw
              case rel => exact ⟨j + 1, by omega, by go_num, HF9.out⟩
              case measure => simp [intOf]; omega
            · obtain rfl : j = i := by omega
              have ar1 := hFn.s1.ai.ar
              have be11 := hFn.be
              have hmd := hFn.md
              have hHH := hFn.hh
              clear hFn hl hpi
              generalize k.s.l = ll at *
              have hlm := ar1.most
              generalize k.s.k = kk at *
              go_wp2_with fail
              refine (all_any _ _ _ _ _ ar1).mono ?_
              rintro e w12 ⟨rfl, h12⟩
              obtain ⟨l12, b12, s12⟩ := h12
              have md12 := hmd.below b12 hmd.lt
              have hh12 := hHH.keep b12 hHH.lt
              have be12 := be11.trans (b12.mono be11.size)
              generalize hsl : wr.heap.size = SL at *
              clear ar1 be11 b12 hsl hmd hHH
              have z0 := md12.cell 0
              simp at z0
              go_wp2_with fail
              go_loopw [136] (fun u wr3 => ∃ m : Nat, m ≤ ll.length ∧ u = .int .i64 m ∧ wr3 = w12) (fun u _ => ll.length - (intOf u).toNat)
              case atStart => exact ⟨0, by omega, rfl, rfl⟩
              case round =>
                obtain ⟨m, hm, rfl, rfl⟩ := hrel
                by_cases hlt : m < ll.length
                · have e1 := l12.cell m
                  rw [nums_at hlt] at e1
                  have e2 := hh12.cell m hlt
                  generalize getA ll m = y at *
                  go_wp2
                  go_roundw
                  case rel => exact ⟨m + 1, by omega, by go_num, by first | rfl | trivial⟩
                  case measure => simp [intOf]; omega
                · obtain rfl : m = ll.length := by omega
                  go_wp2
                  go_ret
                  exact ⟨rfl, be12⟩
    · go_enter Try.func3, Try.ntmps3
      go_wp2_with fail
      refine (speaks7_any _).mono ?_
      rintro e w1 ⟨rfl, hb1⟩
      have cf := few_any A n cp S G w w1 hg hb1
      rw [hf] at cf
      go_wp2_with fail
      refine cf.mono ?_
      rintro e w' ⟨rfl, rfl⟩
      clear cf
      go_wp2_with fail
      refine (speaks7_any _).mono ?_
      rintro e w2 ⟨rfl, hb2⟩
      go_wp2
      go_ret
      exact ⟨rfl, hb1.trans (hb2.mono hb1.size)⟩
  | false =>
    go_enter Try.func3, Try.ntmps3
    go_wp2_with fail
    refine (speaks7_any _).mono ?_
    rintro e w1 ⟨rfl, hb1⟩
    have cf := few_any A n cp S G w w1 hg hb1
    rw [hf] at cf
    go_wp2_with fail
    refine cf.mono ?_
    rintro e w' ⟨rfl, rfl⟩
    clear cf
    go_wp2_with fail
    refine (speaks7_any _).mono ?_
    rintro e w2 ⟨rfl, hb2⟩
    go_wp2
    go_ret
    exact ⟨rfl, hb1.trans (hb2.mono hb1.size)⟩

end Go.Proofs.Ytbkopghghoolmaa
