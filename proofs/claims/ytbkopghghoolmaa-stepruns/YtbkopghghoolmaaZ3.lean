/- The document's Run: its walk. -/
import Derived.Test.YtbkopghghoolmaaZ2
import Derived.Deep.RegionHeld3
import Derived.Deep.MidRow
namespace Go.Proofs.Ytbkopghghoolmaa
open Go.RowKit
variable {Xo : Nat}

theorem rtask_info : (Try.prog.info? 46).map (fun i => (i.zero, i.size, i.bytes)) = some (some (.agg #[.slice none 0 0, .int .i64 0, .int .u64 0]), 3, 40) := by kernel_rfl

/-- in the midst of Run: m picks are done. -/
structure RM (Xo : Nat) (w : World) (S g n : Nat) (Sl : Nat → Option Addr × Nat × Nat) (k : Cfg ASt (Nat × List Act4)) (W : World) : Prop where
  ar : ∃ gg cap, Lies W S 32 #[.slice (some ⟨gg, 0, none⟩) 4 cap, .int .i64 k.s.k] ∧ Held Xo W gg k.s.l
  rr : Lies W (S + 1) 32 #[.slice none 0 0, .int .i64 0]
  rt : 0 < n → RT W g n Sl k.d k.s.x
  ge : 0 < n → S + 2 ≤ g
  be : Below S w W
  len : k.s.l.length = 4
  fit : ∀ x, x ∈ k.s.l → N64 x
  k0 : 0 ≤ k.s.k

theorem RM.below {w : World} {S g n : Nat} {Sl : Nat → Option Addr × Nat × Nat} {k : Cfg ASt (Nat × List Act4)} {W W' : World} (h : RM Xo w S g n Sl k W) (hb : Below W.heap.size W W') : RM Xo w S g n Sl k W' := by
  obtain ⟨gg, cap, h1, h2⟩ := h.ar
  have h3 := h.rr.lt
  exact ⟨⟨gg, cap, h1.below hb h1.lt, h2.keep hb h2.lt⟩, h.rr.below hb h3, fun hn => (h.rt hn).keep (hb.block g (h.rt hn).lt), h.ge, h.be.trans (hb.mono (by omega)), h.len, h.fit, h.k0⟩

/-- a row's values by index. -/
def rnews (Sl : Nat → Option Addr × Nat × Nat) (i : Nat) : Value := if i % 3 = 0 then .slice (Sl (i / 3)).1 (Sl (i / 3)).2.1 (Sl (i / 3)).2.2 else if i % 3 = 1 then .int .i64 0 else .int .u64 0

theorem wpList_rcopy {Sl : Nat → Option Addr × Nat × Nat} {W : World} {a : Addr} {n ca T : Nat} {ops : Array Oper} {rest : List Oper} {o : Oper} {ac : Act} {Q : Exit → Act → World → Prop} (hT : W.heap.size = T) (ha : a.block < T) (hn0 : 0 < n) (hn : n ≤ 6)
    (hc : ∀ j, j < n → W.cell? (a.add (3 * j)) = some (.slice (Sl j).1 (Sl j).2.1 (Sl j).2.2) ∧ W.cell? (a.add (3 * j + 1)) = some (.int .i64 0) ∧ W.cell? (a.add (3 * j + 2)) = some (.int .u64 0))
    (hgd : Region.wanted o (yielded ops ac.tmps) = true) (s x : Operand) (ho : o.op = .call { callee := .builtin .append, args := #[s, x], argTypes := #[36, 36] })
    (hs : ac.eval s = .slice (some ⟨T, 0, none⟩) 0 0) (hx : ac.eval x = .slice (some a) n ca)
    (hK : ∀ g cg w', RT w' g n Sl (fun _ => 0) (fun _ => 0) → T ≤ g → Below T W w' → wpList Try.prog ops Q rest (ac.put o.dst (.slice (some ⟨g, 0, none⟩) n cg)) w') : wpList Try.prog ops Q (o :: rest) ac (W.alloc (.cells #[] 46)) := by
  obtain ⟨i0, hi0, hz0, hz1, hz2⟩ := info_parts rtask_info
  have hl : ((List.range (n * 3)).map (rnews Sl)).length = n * 3 := by simp
  refine wpList_step fun K hK0 => ?_
  rw [if_pos hgd]
  have ow : (W.alloc (.cells #[] 46)).ownsRow T 46 3 (.slice (some ⟨T, 0, none⟩) 0 0) 0 [] := by
    subst hT
    exact World.ownsRow_made W #[] 0 (Nat.le_refl _) (by simp) (by simp)
  refine wp_append_own _ s x 36 ho T 46 i0 _ 3 40 Try.underlying36 hi0 hz0 hz1 hz2 rfl (by omega) _ 0 [] hs ow a n ca ((List.range (n * 3)).map (rnews Sl)) hx hl ?_ ?_ (by simp only [maxLen]; omega) (by omega) (by simp; omega) ?_
  · intro i u hu
    have hi : i < n * 3 := by have := (List.getElem?_eq_some_iff.1 hu).1; omega
    simp [hi] at hu
    subst hu
    have hb : (W.alloc (.cells #[] 46)).cell? (a.add i) = W.cell? (a.add i) := ((Below.refl T W).alloc (by omega) _).cell (by rw [add_block]; exact ha)
    rw [hb]
    obtain ⟨h0, h1, h2⟩ := hc (i / 3) (by omega)
    unfold rnews
    rcases (by omega : i % 3 = 0 ∨ i % 3 = 1 ∨ i % 3 = 2) with h | h | h
    · rw [if_pos h]; rwa [show 3 * (i / 3) = i by omega] at h0
    · rw [if_neg (by omega), if_pos h]; rwa [show 3 * (i / 3) + 1 = i by omega] at h1
    · rw [if_neg (by omega), if_neg (by omega)]; rwa [show 3 * (i / 3) + 2 = i by omega] at h2
  · intro u hu
    obtain ⟨i, _, rfl⟩ := List.mem_map.1 hu
    unfold rnews
    split
    · rfl
    · split <;> rfl
  · intro v' w' h1 h2 _
    have bl : Below T W w' := (((Below.refl T W).alloc (by omega) _).grown h2 (by simp; omega) (fun k hk => by simp [Value.ownBlock] at hk; omega))
    rcases h1.2 with ⟨_, h0⟩ | ⟨g, cg, cur, rfl, hg, hh, _, _, _, htake⟩
    · omega
    · simp only [Nat.zero_add] at *
      refine hK0 _ _ (hK g cg w' ⟨cur, hh, fun j hj => ?_⟩ hg bl)
      have at_ : ∀ i, i < n * 3 → cur[i]? = some (rnews Sl i) := fun i hi => by
        have e := congrArg (·[i]?) htake
        simp [hi] at e
        simpa using e
      refine ⟨?_, ?_, ?_⟩
      · rw [at_ _ (by omega)]; unfold rnews; rw [if_pos (by omega), show 3 * j / 3 = j by omega]
      · rw [at_ _ (by omega)]; unfold rnews; rw [if_neg (by omega), if_pos (by omega)]; rfl
      · rw [at_ _ (by omega)]; unfold rnews; rw [if_neg (by omega), if_neg (by omega)]

theorem Held.unlike3 {W : World} {g m : Nat} {l : List Int} {t : TypeId} {cs : Array Value} (h : Held Xo W g l) (k : Lies W m t cs) (hne : 44 ≠ t) : g ≠ m := by
  obtain ⟨cur, h1, _⟩ := h
  exact h1.unlike k hne

structure TwoAt (Xo : Nat) (w5 : World) (N5 N6 g6 : Nat) (x y p q r : Value) (l : List Int) (wc : World) : Prop where
  a : Lies wc N5 32 #[x, y]
  t : Lies wc N6 46 #[p, q, r]
  h : Held Xo wc g6 l
  b : Below w5.heap.size w5 wc
  n5 : w5.heap.size ≤ N5
  n6 : w5.heap.size ≤ N6

theorem TwoAt.mk5 {w5 W : World} {N5 N6 g6 : Nat} {x0 y0 p0 q0 r0 x y p q r : Value} {l : List Int} (L5 : Lies W N5 32 #[x0, y0]) (L6 : Lies W N6 46 #[p0, q0, r0]) (hH : Held Xo W g6 l) (hb : Below w5.heap.size w5 W) (n5 : w5.heap.size ≤ N5) (n6 : w5.heap.size ≤ N6) :
    TwoAt Xo w5 N5 N6 g6 x y p q r l (((((W.setCell ⟨N5, 0, none⟩ x).setCell ⟨N5, 1, none⟩ y).setCell ⟨N6, 0, none⟩ p).setCell ⟨N6, 1, none⟩ q).setCell ⟨N6, 2, none⟩ r) := by
  have h1 := hH.unlike3 L5 (by decide)
  have h2 := hH.unlike3 L6 (by decide)
  have h3 := L5.unlike L6 (by decide)
  refine ⟨?_, ?_, ?_, ?_, n5, n6⟩
  · exact ((((L5.set 0 x).set 1 y).far (p := ⟨N6, 0, none⟩) h3 p).far (p := ⟨N6, 1, none⟩) h3 q).far (p := ⟨N6, 2, none⟩) h3 r
  · exact ((((L6.far (p := ⟨N5, 0, none⟩) h3.symm x).far (p := ⟨N5, 1, none⟩) h3.symm y).set 0 p).set 1 q).set 2 r
  · exact ((((hH.far (p := ⟨N5, 0, none⟩) h1 x).far (p := ⟨N5, 1, none⟩) h1 y).far (p := ⟨N6, 0, none⟩) h2 p).far (p := ⟨N6, 1, none⟩) h2 q).far (p := ⟨N6, 2, none⟩) h2 r
  · exact ((((hb.setCell (p := ⟨N5, 0, none⟩) n5 x).setCell (p := ⟨N5, 1, none⟩) n5 y).setCell (p := ⟨N6, 0, none⟩) n6 p).setCell (p := ⟨N6, 1, none⟩) n6 q).setCell (p := ⟨N6, 2, none⟩) n6 r

theorem TwoAt.mk3 {w5 W : World} {N5 N6 g6 : Nat} {p0 q0 r0 x y p q r : Value} {l : List Int} (L5 : Lies W N5 32 #[x, y]) (L6 : Lies W N6 46 #[p0, q0, r0]) (hH : Held Xo W g6 l) (hb : Below w5.heap.size w5 W) (n5 : w5.heap.size ≤ N5) (n6 : w5.heap.size ≤ N6) :
    TwoAt Xo w5 N5 N6 g6 x y p q r l (((W.setCell ⟨N6, 0, none⟩ p).setCell ⟨N6, 1, none⟩ q).setCell ⟨N6, 2, none⟩ r) := by
  have h2 := hH.unlike3 L6 (by decide)
  have h3 := L5.unlike L6 (by decide)
  refine ⟨?_, ?_, ?_, ?_, n5, n6⟩
  · exact ((L5.far (p := ⟨N6, 0, none⟩) h3 p).far (p := ⟨N6, 1, none⟩) h3 q).far (p := ⟨N6, 2, none⟩) h3 r
  · exact ((L6.set 0 p).set 1 q).set 2 r
  · exact ((hH.far (p := ⟨N6, 0, none⟩) h2 p).far (p := ⟨N6, 1, none⟩) h2 q).far (p := ⟨N6, 2, none⟩) h2 r
  · exact ((hb.setCell (p := ⟨N6, 0, none⟩) n6 p).setCell (p := ⟨N6, 1, none⟩) n6 q).setCell (p := ⟨N6, 2, none⟩) n6 r

set_option maxRecDepth 100000 in
set_option maxHeartbeats 4000000 in
theorem rrun_any (gg cap : Nat) (A P : Option Addr) (n ca np cpp : Nat) (Sl : Nat → Option Addr × Nat × Nat) (xss : Nat → List Act4) (ps : List Int) (B p c sb : Nat) (LL : List Nat) (w : World)
    (hH : Held Xo w gg [0, 0, 0, 0]) (hP : Row w .i64 P np ps) (hnp : np ≤ 200) (hn : n ≤ 6)
    (hA : 0 < n → ∃ a, A = some a ∧ a.block < w.heap.size ∧ ∀ j, j < n → w.cell? (a.add (3 * j)) = some (.slice (Sl j).1 (Sl j).2.1 (Sl j).2.2) ∧ w.cell? (a.add (3 * j + 1)) = some (.int .i64 0) ∧ w.cell? (a.add (3 * j + 2)) = some (.int .u64 0))
    (hl : ∀ j, j < n → (Sl j).2.1 = (xss j).length ∧ (xss j).length ≤ 30)
    (hx : ∀ j d x, j < n → (xss j)[d]? = some x → ∃ a, (Sl j).1 = some a ∧ a.block < w.heap.size ∧ ActAt w (a.add (d * 4)) x) :
    Calls Try.prog 11 #[.agg #[.slice (some ⟨gg, 0, none⟩) 4 cap, .int .i64 0], .slice A n ca, .slice P np cpp] w fun e W' => ∃ gg' cap' g cg, let k := pickTo (AM B p c sb n LL) n (cfg0 xss) ps np
      e = .returned (.tuple #[.agg #[.slice (some ⟨gg', 0, none⟩) 4 cap', .int .i64 k.s.k], .slice (some ⟨g, 0, none⟩) n cg, .int .i64 k.n]) ∧ Held Xo W' gg' k.s.l ∧ (0 < n → RT W' g n Sl k.d k.s.x) ∧ Below w.heap.size w W' := by
  go_enter Try.func11, Try.ntmps11
  go_upto_region 1 with (fail)
  have tu2 : Below w.heap.size w ((w.alloc (.cells #[.slice (some ⟨gg, 0, none⟩) 4 cap, .int .i64 0] 32)).alloc (.cells #[.slice none 0 0, .int .i64 0] 32)) := ((Below.refl _ _).alloc (Nat.le_refl _) _).alloc (by simp) _
  have lS : Lies ((w.alloc (.cells #[.slice (some ⟨gg, 0, none⟩) 4 cap, .int .i64 0] 32)).alloc (.cells #[.slice none 0 0, .int .i64 0] 32)) w.heap.size 32 #[.slice (some ⟨gg, 0, none⟩) 4 cap, .int .i64 0] := (Lies.new _ _ _).alloc _
  have lS1 : Lies ((w.alloc (.cells #[.slice (some ⟨gg, 0, none⟩) 4 cap, .int .i64 0] 32)).alloc (.cells #[.slice none 0 0, .int .i64 0] 32)) (w.heap.size + 1) 32 #[.slice none 0 0, .int .i64 0] := Lies.new_at _ _ (by simp)
  have sz2 : ((w.alloc (.cells #[.slice (some ⟨gg, 0, none⟩) 4 cap, .int .i64 0] 32)).alloc (.cells #[.slice none 0 0, .int .i64 0] 32)).heap.size = w.heap.size + 2 := by simp
  have hH2 := hH.keep tu2 hH.lt
  have hA2 : 0 < n → ∃ a, A = some a ∧ a.block < w.heap.size ∧ ∀ j, j < n → ((w.alloc (.cells #[.slice (some ⟨gg, 0, none⟩) 4 cap, .int .i64 0] 32)).alloc (.cells #[.slice none 0 0, .int .i64 0] 32)).cell? (a.add (3 * j)) = some (.slice (Sl j).1 (Sl j).2.1 (Sl j).2.2) ∧ ((w.alloc (.cells #[.slice (some ⟨gg, 0, none⟩) 4 cap, .int .i64 0] 32)).alloc (.cells #[.slice none 0 0, .int .i64 0] 32)).cell? (a.add (3 * j + 1)) = some (.int .i64 0) ∧ ((w.alloc (.cells #[.slice (some ⟨gg, 0, none⟩) 4 cap, .int .i64 0] 32)).alloc (.cells #[.slice none 0 0, .int .i64 0] 32)).cell? (a.add (3 * j + 2)) = some (.int .u64 0) := fun h => by
    obtain ⟨a, e, h1, h2⟩ := hA h
    refine ⟨a, e, h1, fun j hj => ?_⟩
    obtain ⟨k1, k2, k3⟩ := h2 j hj
    exact ⟨(tu2.cell (by rw [add_block]; exact h1)).trans k1, (tu2.cell (by rw [add_block]; exact h1)).trans k2, (tu2.cell (by rw [add_block]; exact h1)).trans k3⟩
  generalize ((w.alloc (.cells #[.slice (some ⟨gg, 0, none⟩) 4 cap, .int .i64 0] 32)).alloc (.cells #[.slice none 0 0, .int .i64 0] 32)) = w2 at *
  obtain ⟨S, hS⟩ : ∃ S, w.heap.size = S := ⟨_, rfl⟩
  have HS := Lib.hid hS
  rw [hS] at tu2 lS lS1 sz2 hA2
  simp only [hS]
  clear hS hA
  have mk : ∀ g W, Below (S + 2) w2 W → (0 < n → RT W g n Sl (fun _ => 0) (fun _ => 0)) → (0 < n → S + 2 ≤ g) → RM Xo w S g n Sl (cfg0 xss) W := fun g W hb hr hg =>
    ⟨⟨gg, cap, lS.below hb (by omega), hH2.keep hb (by have := hH.lt; have := HS.out; omega)⟩, lS1.below hb (by omega), hr, hg, tu2.trans (hb.mono (by omega)), rfl, by intro x hx; simp [cfg0, zeroS] at hx; subst hx; simp [N64], by show (0 : Int) ≤ 0; omega⟩
  go_cut [1, 14, 15, 16] (fun v1 _ _ _ wc => ∃ g cg, v1 = .slice (some ⟨g, 0, none⟩) n cg ∧ RM Xo w S g n Sl (cfg0 xss) wc)
  case first =>
    rcases Nat.eq_zero_or_pos n with hn0 | hn0
    · obtain ⟨i0, hi0, _⟩ := info_parts rtask_info
      have HN := Lib.hid hn0
      clear hn0
      go_wp2_with (first | (at_builtin; refine wpList_irow_zero rfl (.tmp 14) (.tmp 15) 36 rfl 46 i0 Try.underlying36 hi0 _ 0 0 A n ca HN.out (by omega) rfl rfl ?_) | fail)
      go_meet
      case rel => exact ⟨_, _, by rw [HN.out], mk _ _ ((Below.refl _ _).alloc (by omega) _) (fun h => by have := HN.out; omega) (fun h => by have := HN.out; omega)⟩
    · obtain ⟨a, rfl, ha, hc⟩ := hA2 hn0
      go_wp2_with (first | (at_builtin; refine wpList_rcopy (T := S + 2) sz2 (by omega) hn0 hn hc (by rfl) (.tmp 14) (.tmp 15) rfl rfl rfl ?_; intro g cg w3 hrt hge hbe) | fail)
      go_meet
      case rel => exact ⟨g, cg, rfl, mk g w3 hbe (fun _ => hrt) (fun _ => hge)⟩
  case rest =>
    obtain ⟨g, cg, rfl, hM⟩ := hcut
    clear mk lS lS1 sz2 hH2 hA2 tu2
    have hpl := hP.len
    go_wp2_with fail
    go_loopw [9, 10] (fun u9 u10 wr => ∃ m : Nat, m ≤ np ∧ u10 = .int .i64 m ∧ u9 = .int .i64 (pickTo (AM B p c sb n LL) n (cfg0 xss) ps m).n ∧ RM Xo w S g n Sl (pickTo (AM B p c sb n LL) n (cfg0 xss) ps m) wr) (fun _ u _ => np - (intOf u).toNat)
    case atStart => exact ⟨0, by omega, rfl, rfl, hM⟩
    case round =>
      clear hM
      obtain ⟨m, hmn, rfl, rfl, hM⟩ := hrel
      by_cases hlt : m < np
      · obtain ⟨b, rfl, hbb, hcell⟩ := hP.at_ (by omega)
        have hbS : b.block < S := by rw [← HS.out]; exact hbb
        have hcx := ((hM.be.cell (p := b.add m) (by rw [add_block]; exact hbS))).trans (hcell m hlt)
        have hwx := i64_of_wf (hP.wf (ps.getD m 0) (by simp [List.getD, show m < ps.length by omega]))
        have hSu := Lib.hid (pickTo_succ (AM B p c sb n LL) n (cfg0 xss) ps m (by omega))
        have hI := pinv (B := B) (p := p) (c := c) (sb := sb) (n := n) (LL := LL) (xss := xss) ps m (by omega)
        have hdn := pickTo_n (M := AM B p c sb n LL) (N := n) (cfg0 xss) ps m (by omega)
        rw [show (cfg0 xss).n = 0 from rfl] at hdn
        have hkk := pickTo_k (B := B) (p := p) (c := c) (sb := sb) (n := n) (LL := LL) (xss := xss) ps m (by omega)
        clear hcell
        generalize ps.getD m 0 = x at *
        generalize hk' : pickTo (AM B p c sb n LL) n (cfg0 xss) ps m = k at *
        clear hk'
        have HN : ∀ W', doesP (AM B p c sb n LL) n k x = false → RM Xo w S g n Sl k W' → RM Xo w S g n Sl (pickTo (AM B p c sb n LL) n (cfg0 xss) ps (m + 1)) W' ∧ (pickTo (AM B p c sb n LL) n (cfg0 xss) ps (m + 1)).n = k.n := fun W' h1 h2 => by
          rw [hSu.out, pick1_no h1]; exact ⟨h2, rfl⟩
        have HN := Lib.hid HN
        rcases (by omega : x < 0 ∨ 0 ≤ x ∧ (n : Int) ≤ x ∨ 0 ≤ x ∧ x < n) with hx0 | ⟨hx0, hx1⟩ | ⟨hx0, hx1⟩
        · have hd : doesP (AM B p c sb n LL) n k x = false := by rw [does_is hI]; simp; omega
          obtain ⟨h1, h2⟩ := HN.out _ hd hM
          have h1 := Lib.hid h1
          have h2 := Lib.hid h2
          clear hd HN hI
          go_wp2
          go_roundw
          case rel => exact ⟨m + 1, by omega, by go_num, by rw [h2.out], h1.out⟩
          case measure => simp [intOf]; omega
        · have hd : doesP (AM B p c sb n LL) n k x = false := by rw [does_is hI]; simp; omega
          obtain ⟨h1, h2⟩ := HN.out _ hd hM
          have h1 := Lib.hid h1
          have h2 := Lib.hid h2
          clear hd HN hI
          go_wp2
          go_roundw
          case rel => exact ⟨m + 1, by omega, by go_num, by rw [h2.out], h1.out⟩
          case measure => simp [intOf]; omega
        · obtain ⟨j, rfl⟩ := Int.eq_ofNat_of_zero_le hx0
          have hj : j < n := by omega
          have hrt := hM.rt (by omega)
          obtain ⟨tc0, tc1, tc2⟩ := hrt.cells hj
          rw [show 3 * j = j * 3 by omega] at tc0 tc1 tc2
          obtain ⟨hl1, hl2⟩ := hl j hj
          have hkd := hI.d j
          cases hdo : doesP (AM B p c sb n LL) n k (j : Int) with
          | false =>
            have hle : (Sl j).2.1 ≤ k.d j := by rw [does_is hI] at hdo; simp [hj] at hdo; omega
            have HN2 := fun W' h => HN.out W' hdo h
            have HN2 := Lib.hid HN2
            have cE := fun W => rended_any (Sl j).1 (Sl j).2.1 (Sl j).2.2 (k.d j) (k.s.x j) W true (by simp; omega)
            have HM := Lib.hid hM
            clear hdo HN hI hM hrt hSu hle hl1 hl2 hkd
            generalize (Sl j).1 = sA at *
            generalize (Sl j).2.1 = sn at *
            generalize (Sl j).2.2 = sc at *
            generalize k.d j = kd at *
            generalize k.s.x j = kx at *
            go_wp2_with fail
            refine (cE _).mono ?_
            rintro e w5 ⟨rfl, hb5⟩
            obtain ⟨h1, h2⟩ := HN2.out _ (HM.out.below hb5)
            have h1 := Lib.hid h1
            have h2 := Lib.hid h2
            go_wp2
            go_roundw
            case rel => exact ⟨m + 1, by omega, by go_num, by rw [h2.out], h1.out⟩
            case measure => simp [intOf]; omega
          | true =>
            have hlt2 : k.d j < (xss j).length := by rw [does_is hI] at hdo; simp [hj] at hdo; omega
            obtain ⟨y, hy⟩ : ∃ y, (xss j)[k.d j]? = some y := ⟨_, List.getElem?_eq_getElem hlt2⟩
            obtain ⟨a, hsa, ha, hact⟩ := hx j (k.d j) y hj hy
            have hp1 := Lib.hid (hSu.out.trans (pick1_is hI j hj y hy))
            have cE := fun W => rended_any (Sl j).1 (Sl j).2.1 (Sl j).2.2 (k.d j) (k.s.x j) W false (by simp; omega)
            have haS : a.block < S := by rw [← HS.out]; exact ha
            have HM := Lib.hid hM
            have hact5 : ∀ W, Below S w W → ActAt W (a.add (k.d j * 4)) y := fun W hb => by
              have q : (a.add (k.d j * 4)).block < S := by rw [add_block]; exact haS
              exact ⟨(hb.cell (p := a.add (k.d j * 4)) q).trans hact.c0, (hb.cell (p := ⟨(a.add (k.d j * 4)).block, (a.add (k.d j * 4)).off + 1, none⟩) q).trans hact.c1, (hb.cell (p := ⟨(a.add (k.d j * 4)).block, (a.add (k.d j * 4)).off + 2, none⟩) q).trans hact.c2, (hb.cell (p := ⟨(a.add (k.d j * 4)).block, (a.add (k.d j * 4)).off + 3, none⟩) q).trans hact.c3, hact.k0, hact.c0', hact.o0, hact.v0⟩
            have hkb : k.s.k < 9223372036854775807 := by omega
            have HSl := Lib.hid hsa
            rw [hsa] at tc0 cE
            have hnn : (Sl j).2.1 ≤ 30 := by omega
            have hdd : k.d j < (Sl j).2.1 := by omega
            clear hdo HN hI hM hrt hSu hl1 hl2 hkd hsa hlt2 hy
            obtain ⟨sn, hsn⟩ : ∃ sn, (Sl j).2.1 = sn := ⟨_, rfl⟩
            obtain ⟨sc, hsc⟩ : ∃ sc, (Sl j).2.2 = sc := ⟨_, rfl⟩
            rw [hsn, hsc] at tc0 cE
            rw [hsn] at hnn hdd
            have HSN := Lib.hid hsn
            have HSC := Lib.hid hsc
            clear hsn hsc
            go_wp2_with fail
            refine (cE _).mono ?_
            rintro e w5 ⟨rfl, hb5⟩
            have hM5 := HM.out.below hb5
            obtain ⟨g5, cap5, hS5, hH5⟩ := hM5.ar
            have rt5 := hM5.rt (by omega)
            obtain ⟨tc0, tc1, tc2⟩ := rt5.cells hj
            rw [show 3 * j = j * 3 by omega, HSl.out, HSN.out, HSC.out] at tc0
            rw [show 3 * j + 1 = j * 3 + 1 by omega] at tc1
            rw [show 3 * j + 2 = j * 3 + 2 by omega] at tc2
            have s0 := hS5.cell 0
            have s1 := hS5.cell 1
            simp at s0 s1
            have cS : ∀ W, Below w5.heap.size w5 W → Calls Try.prog 31 #[.agg #[.slice (some ⟨g5, 0, none⟩) 4 cap5, .int .i64 k.s.k], rtask (some a) sn sc (k.d j) (k.s.x j)] W fun e w6 => RStep Xo W 4 a sn sc (k.d j) (act1 ⟨k.s.l, k.s.k, fun _ => k.s.x j⟩ 0 y).l (act1 ⟨k.s.l, k.s.k, fun _ => k.s.x j⟩ 0 y).k ((act1 ⟨k.s.l, k.s.k, fun _ => k.s.x j⟩ 0 y).x 0) e w6 ∧ Below w5.heap.size w5 w6 := fun W hW => by
              have sz5 := hM5.be.size
              have e5 := HS.out
              refine (rstep_any g5 4 cap5 k.s.k k.s.l a sn sc (k.d j) (k.s.x j) y W (hH5.keep hW hH5.lt) hM5.len (by omega) hM5.k0 hkb hM5.fit (by have := hW.size; omega) (hact5 W (hM5.be.trans (hW.mono (by omega)))) hdd hnn).mono ?_
              intro e w6 h
              obtain ⟨g6, cap6, he, h1, h2⟩ := h
              exact ⟨⟨g6, cap6, he, h1, h2⟩, hW.trans (h2.mono hW.size)⟩
            have HL := Lib.hid (act1_local k.s j y)
            have n1 : g ≠ S := by have := hM5.ge (by omega); omega
            have gl := rt5.lt
            have sl := hS5.lt
            have hyv := hact.v0
            obtain ⟨a1, ha1⟩ : ∃ a1, act1 ⟨k.s.l, k.s.k, fun _ => k.s.x j⟩ 0 y = a1 := ⟨_, rfl⟩
            rw [ha1] at cS HL
            clear ha1
            obtain ⟨kd, hkd⟩ : ∃ kd, k.d j = kd := ⟨_, rfl⟩
            obtain ⟨kx, hkx⟩ : ∃ kx, k.s.x j = kx := ⟨_, rfl⟩
            obtain ⟨kk, hkk2⟩ : ∃ kk, k.s.k = kk := ⟨_, rfl⟩
            rw [hkd] at tc1 cS hdd
            rw [hkx] at tc2 cS
            rw [hkk2] at s1 cS
            have HKD := Lib.hid hkd
            have HM5 := Lib.hid hM5
            clear hkd hkx hkk2 hact5 hact cE HM hM5 rt5
            go_wp2_with fail
            have hb0 : Below w5.heap.size w5 w5.drew := (Below.refl _ _).drew
            have hb1 : Below w5.heap.size w5 (w5.alloc (.cells #[.slice none 0 0, .int .i64 0] 32)).drew := ((Below.refl _ _).alloc (Nat.le_refl _) _).drew
            have hb2 : Below w5.heap.size w5 (w5.alloc (.cells #[.slice none 0 0, .int .i64 0, .int .u64 0] 46)).drew := ((Below.refl _ _).alloc (Nat.le_refl _) _).drew
            have hb3 : Below w5.heap.size w5 ((w5.alloc (.cells #[.slice none 0 0, .int .i64 0] 32)).alloc (.cells #[.slice none 0 0, .int .i64 0, .int .u64 0] 46)).drew := (((Below.refl _ _).alloc (Nat.le_refl _) _).alloc (by simp) _).drew
            have hb4 : Below w5.heap.size w5 ((w5.alloc (.cells #[.slice none 0 0, .int .i64 0, .int .u64 0] 46)).alloc (.cells #[.slice none 0 0, .int .i64 0] 32)).drew := (((Below.refl _ _).alloc (Nat.le_refl _) _).alloc (by simp) _).drew
            have n2 : w5.heap.size ≠ S := by omega
            have n3 : S ≠ w5.heap.size := by omega
            have n4 : w5.heap.size ≠ g := by omega
            have n5 : g ≠ w5.heap.size := by omega
            have n6 : w5.heap.size + 1 ≠ S := by omega
            have n7 : S ≠ w5.heap.size + 1 := by omega
            have n8 : w5.heap.size + 1 ≠ g := by omega
            have n9 : g ≠ w5.heap.size + 1 := by omega
            go_cut [12, 13, 43, 44, 45, 46, 47, 48, 49, 50, 51] (fun v1 v2 _ _ _ _ _ _ _ _ _ wc => ∃ N5 N6 g6 cap6, v1 = .pointer (some ⟨N5, 0, none⟩) ∧ v2 = .pointer (some ⟨N6, 0, none⟩) ∧ TwoAt Xo w5 N5 N6 g6 (.slice (some ⟨g6, 0, none⟩) 4 cap6) (.int .i64 a1.k) (.slice (some a) sn sc) (.int .i64 ((kd : Int) + 1)) (.int .u64 (a1.x 0)) a1.l wc)
            case first =>
              go_region_held3 (fun W' => W'.cell? ⟨S, 0, none⟩ = some (.slice (some ⟨g5, 0, none⟩) 4 cap5) ∧ W'.cell? ⟨S, 1, none⟩ = some (.int .i64 kk) ∧ W'.cell? ⟨g, j * 3, none⟩ = some (.slice (some a) sn sc) ∧ W'.cell? ⟨g, j * 3 + 1, none⟩ = some (.int .i64 kd) ∧ W'.cell? ⟨g, j * 3 + 2, none⟩ = some (.int .u64 kx))
                (first | with_reducible exact ⟨s0, s1, tc0, tc1, tc2⟩ | with_reducible exact ⟨d0, d1, d2, d3, d4⟩ | go_keep)
                (first
                | (go_at_call 31
                   with_reducible refine (cS _ hb0).mono ?_
                   rintro e w6 ⟨⟨g6, cap6, rfl, hH6, hb6⟩, hb7⟩
                   have sl6 : S < w6.heap.size := Nat.lt_of_lt_of_le sl hb7.size
                   have gl6 : g < w6.heap.size := Nat.lt_of_lt_of_le gl hb7.size
                   have d0 := (hb7.cell (p := ⟨S, 0, none⟩) sl).trans s0
                   have d1 := (hb7.cell (p := ⟨S, 1, none⟩) sl).trans s1
                   have d2 := (hb7.cell (p := ⟨g, j * 3, none⟩) gl).trans tc0
                   have d3 := (hb7.cell (p := ⟨g, j * 3 + 1, none⟩) gl).trans tc1
                   have d4 := (hb7.cell (p := ⟨g, j * 3 + 2, none⟩) gl).trans tc2)
                | (go_at_call 31
                   with_reducible refine (cS _ hb1).mono ?_
                   rintro e w6 ⟨⟨g6, cap6, rfl, hH6, hb6⟩, hb7⟩
                   have sl6 : S < w6.heap.size := Nat.lt_of_lt_of_le sl hb7.size
                   have gl6 : g < w6.heap.size := Nat.lt_of_lt_of_le gl hb7.size
                   have d0 := (hb7.cell (p := ⟨S, 0, none⟩) sl).trans s0
                   have d1 := (hb7.cell (p := ⟨S, 1, none⟩) sl).trans s1
                   have d2 := (hb7.cell (p := ⟨g, j * 3, none⟩) gl).trans tc0
                   have d3 := (hb7.cell (p := ⟨g, j * 3 + 1, none⟩) gl).trans tc1
                   have d4 := (hb7.cell (p := ⟨g, j * 3 + 2, none⟩) gl).trans tc2
                   have L5 : Lies w6 w5.heap.size 32 #[.slice none 0 0, .int .i64 0] := (Lies.new w5 _ _).drew.below hb6 (by simp <;> omega)
                   have e0 := L5.cell 0
                   have e1 := L5.cell 1
                   have e2 := L5.frozen 0
                   have e3 := L5.frozen 1
                   simp at e0 e1
                   have h0 := (L5.alloc (.cells #[.slice none 0 0, .int .i64 0, .int .u64 0] 46)).cell 0
                   have h1 := (L5.alloc (.cells #[.slice none 0 0, .int .i64 0, .int .u64 0] 46)).cell 1
                   have h2 := (L5.alloc (.cells #[.slice none 0 0, .int .i64 0, .int .u64 0] 46)).frozen 0
                   have h3 := (L5.alloc (.cells #[.slice none 0 0, .int .i64 0, .int .u64 0] 46)).frozen 1
                   simp only [List.getElem?_toArray, List.getElem?_cons_zero, List.getElem?_cons_succ] at h0 h1
                   have m1 : w6.heap.size ≠ S := by omega
                   have m2 : S ≠ w6.heap.size := by omega
                   have m3 : w6.heap.size ≠ g := by omega
                   have m4 : g ≠ w6.heap.size := by omega
                   have z6 := hb6.size
                   simp at z6
                   have z7 : w5.heap.size ≠ w6.heap.size := by omega
                   have z8 : w6.heap.size ≠ w5.heap.size := by omega)
                | (go_at_call 31
                   with_reducible refine (cS _ hb2).mono ?_
                   rintro e w6 ⟨⟨g6, cap6, rfl, hH6, hb6⟩, hb7⟩
                   have sl6 : S < w6.heap.size := Nat.lt_of_lt_of_le sl hb7.size
                   have gl6 : g < w6.heap.size := Nat.lt_of_lt_of_le gl hb7.size
                   have d0 := (hb7.cell (p := ⟨S, 0, none⟩) sl).trans s0
                   have d1 := (hb7.cell (p := ⟨S, 1, none⟩) sl).trans s1
                   have d2 := (hb7.cell (p := ⟨g, j * 3, none⟩) gl).trans tc0
                   have d3 := (hb7.cell (p := ⟨g, j * 3 + 1, none⟩) gl).trans tc1
                   have d4 := (hb7.cell (p := ⟨g, j * 3 + 2, none⟩) gl).trans tc2
                   have L6 : Lies w6 w5.heap.size 46 #[.slice none 0 0, .int .i64 0, .int .u64 0] := (Lies.new w5 _ _).drew.below hb6 (by simp <;> omega)
                   have f0 := L6.cell 0
                   have f1 := L6.cell 1
                   have f2 := L6.cell 2
                   have f3 := L6.frozen 0
                   have f4 := L6.frozen 1
                   have f5 := L6.frozen 2
                   simp at f0 f1 f2
                   have h0 := (L6.alloc (.cells #[.slice none 0 0, .int .i64 0] 32)).cell 0
                   have h1 := (L6.alloc (.cells #[.slice none 0 0, .int .i64 0] 32)).cell 1
                   have h2 := (L6.alloc (.cells #[.slice none 0 0, .int .i64 0] 32)).cell 2
                   have h3 := (L6.alloc (.cells #[.slice none 0 0, .int .i64 0] 32)).frozen 0
                   have h4 := (L6.alloc (.cells #[.slice none 0 0, .int .i64 0] 32)).frozen 1
                   have h5 := (L6.alloc (.cells #[.slice none 0 0, .int .i64 0] 32)).frozen 2
                   simp only [List.getElem?_toArray, List.getElem?_cons_zero, List.getElem?_cons_succ] at h0 h1 h2
                   have m1 : w6.heap.size ≠ S := by omega
                   have m2 : S ≠ w6.heap.size := by omega
                   have m3 : w6.heap.size ≠ g := by omega
                   have m4 : g ≠ w6.heap.size := by omega
                   have z6 := hb6.size
                   simp at z6
                   have z7 : w5.heap.size ≠ w6.heap.size := by omega
                   have z8 : w6.heap.size ≠ w5.heap.size := by omega
                   have H6 := L6.alloc (.cells #[.slice (some ⟨g6, 0, none⟩) 4 cap6, .int .i64 a1.k] 32)
                   have i0 := H6.cell 0
                   have i1 := H6.cell 1
                   have i2 := H6.cell 2
                   have i3 := H6.frozen 0
                   have i4 := H6.frozen 1
                   have i5 := H6.frozen 2
                   simp only [List.getElem?_toArray, List.getElem?_cons_zero, List.getElem?_cons_succ] at i0 i1 i2)
                | (go_at_call 31
                   with_reducible refine (cS _ hb3).mono ?_
                   rintro e w6 ⟨⟨g6, cap6, rfl, hH6, hb6⟩, hb7⟩
                   have sl6 : S < w6.heap.size := Nat.lt_of_lt_of_le sl hb7.size
                   have gl6 : g < w6.heap.size := Nat.lt_of_lt_of_le gl hb7.size
                   have d0 := (hb7.cell (p := ⟨S, 0, none⟩) sl).trans s0
                   have d1 := (hb7.cell (p := ⟨S, 1, none⟩) sl).trans s1
                   have d2 := (hb7.cell (p := ⟨g, j * 3, none⟩) gl).trans tc0
                   have d3 := (hb7.cell (p := ⟨g, j * 3 + 1, none⟩) gl).trans tc1
                   have d4 := (hb7.cell (p := ⟨g, j * 3 + 2, none⟩) gl).trans tc2
                   have L5 : Lies w6 w5.heap.size 32 #[.slice none 0 0, .int .i64 0] := ((Lies.new w5 _ _).alloc _).drew.below hb6 (by simp <;> omega)
                   have L6 : Lies w6 (w5.heap.size + 1) 46 #[.slice none 0 0, .int .i64 0, .int .u64 0] := (Lies.new_at _ _ (by simp)).drew.below hb6 (by simp <;> omega)
                   have e0 := L5.cell 0
                   have e1 := L5.cell 1
                   have e2 := L5.frozen 0
                   have e3 := L5.frozen 1
                   simp at e0 e1
                   have f0 := L6.cell 0
                   have f1 := L6.cell 1
                   have f2 := L6.cell 2
                   have f3 := L6.frozen 0
                   have f4 := L6.frozen 1
                   have f5 := L6.frozen 2
                   simp at f0 f1 f2
                   have m1 : w6.heap.size ≠ S := by omega
                   have m2 : S ≠ w6.heap.size := by omega
                   have m3 : w6.heap.size ≠ g := by omega
                   have m4 : g ≠ w6.heap.size := by omega
                   have z6 := hb6.size
                   simp at z6
                   have z7 : w5.heap.size ≠ w6.heap.size := by omega
                   have z8 : w6.heap.size ≠ w5.heap.size := by omega
                   have z9 : w5.heap.size + 1 ≠ w6.heap.size := by omega
                   have z10 : w6.heap.size ≠ w5.heap.size + 1 := by omega)
                | (go_at_call 31
                   with_reducible refine (cS _ hb4).mono ?_
                   rintro e w6 ⟨⟨g6, cap6, rfl, hH6, hb6⟩, hb7⟩
                   have sl6 : S < w6.heap.size := Nat.lt_of_lt_of_le sl hb7.size
                   have gl6 : g < w6.heap.size := Nat.lt_of_lt_of_le gl hb7.size
                   have d0 := (hb7.cell (p := ⟨S, 0, none⟩) sl).trans s0
                   have d1 := (hb7.cell (p := ⟨S, 1, none⟩) sl).trans s1
                   have d2 := (hb7.cell (p := ⟨g, j * 3, none⟩) gl).trans tc0
                   have d3 := (hb7.cell (p := ⟨g, j * 3 + 1, none⟩) gl).trans tc1
                   have d4 := (hb7.cell (p := ⟨g, j * 3 + 2, none⟩) gl).trans tc2
                   have L6 : Lies w6 w5.heap.size 46 #[.slice none 0 0, .int .i64 0, .int .u64 0] := ((Lies.new w5 _ _).alloc _).drew.below hb6 (by simp <;> omega)
                   have L5 : Lies w6 (w5.heap.size + 1) 32 #[.slice none 0 0, .int .i64 0] := (Lies.new_at _ _ (by simp)).drew.below hb6 (by simp <;> omega)
                   have e0 := L5.cell 0
                   have e1 := L5.cell 1
                   have e2 := L5.frozen 0
                   have e3 := L5.frozen 1
                   simp at e0 e1
                   have f0 := L6.cell 0
                   have f1 := L6.cell 1
                   have f2 := L6.cell 2
                   have f3 := L6.frozen 0
                   have f4 := L6.frozen 1
                   have f5 := L6.frozen 2
                   simp at f0 f1 f2
                   have m1 : w6.heap.size ≠ S := by omega
                   have m2 : S ≠ w6.heap.size := by omega
                   have m3 : w6.heap.size ≠ g := by omega
                   have m4 : g ≠ w6.heap.size := by omega
                   have z6 := hb6.size
                   simp at z6
                   have z7 : w5.heap.size ≠ w6.heap.size := by omega
                   have z8 : w6.heap.size ≠ w5.heap.size := by omega
                   have z9 : w5.heap.size + 1 ≠ w6.heap.size := by omega
                   have z10 : w6.heap.size ≠ w5.heap.size + 1 := by omega))
              · go_wp2_with fail
                go_meet
                case rel =>
                  have s7 := hb7.size
                  refine ⟨_, _, g6, cap6, rfl, rfl, ?_⟩
                  with_reducible exact ⟨(Lies.new w6 _ _).alloc _, Lies.new_at _ _ (by simp), hH6.keep (((Below.refl w6.heap.size w6).alloc (Nat.le_refl _) _).alloc (by simp) _) hH6.lt, (hb7.alloc hb7.size _).alloc (by simp <;> omega) _, hb7.size, by omega⟩
              · go_wp2_with fail
                go_meet
                case rel =>
                  have s7 := hb7.size
                  refine ⟨_, _, g6, cap6, rfl, rfl, ?_⟩
                  with_reducible exact ⟨Lies.new_at _ _ (by simp), (Lies.new w6 _ _).alloc _, hH6.keep (((Below.refl w6.heap.size w6).alloc (Nat.le_refl _) _).alloc (by simp) _) hH6.lt, (hb7.alloc hb7.size _).alloc (by simp <;> omega) _, by omega, hb7.size⟩
              · go_wp2_with fail
                go_meet
                case rel =>
                  have s7 := hb7.size
                  refine ⟨_, _, g6, cap6, rfl, rfl, ?_⟩
                  with_reducible exact TwoAt.mk5 (L5.alloc _) (Lies.new w6 _ _) (hH6.keep ((Below.refl w6.heap.size w6).alloc (Nat.le_refl _) _) hH6.lt) (hb7.alloc hb7.size _) (Nat.le_refl _) hb7.size
              · go_wp2_with fail
                go_meet
                case rel =>
                  have s7 := hb7.size
                  refine ⟨_, _, g6, cap6, rfl, rfl, ?_⟩
                  with_reducible exact TwoAt.mk5 L5 L6 hH6 hb7 (Nat.le_refl _) (Nat.le_succ _)
              · go_wp2_with fail
                go_meet
                case rel =>
                  have s7 := hb7.size
                  refine ⟨_, _, g6, cap6, rfl, rfl, ?_⟩
                  with_reducible exact TwoAt.mk3 (Lies.new w6 _ _) (L6.alloc _) (hH6.keep ((Below.refl w6.heap.size w6).alloc (Nat.le_refl _) _) hH6.lt) (hb7.alloc hb7.size _) hb7.size (Nat.le_refl _)
              · go_wp2_with fail
                go_meet
                case rel =>
                  have s7 := hb7.size
                  refine ⟨_, _, g6, cap6, rfl, rfl, ?_⟩
                  with_reducible exact TwoAt.mk5 L5 L6 hH6 hb7 (Nat.le_succ _) (Nat.le_refl _)
            case rest =>
              clear cS hb0 hb1 hb2 hb3 hb4 s0 s1 tc0 tc1 tc2
              obtain ⟨N5, N6, g6, cap6, rfl, rfl, hT⟩ := hcut
              have hS7 := hS5.below hT.b sl
              have rt7 := (HM5.out.rt (by omega)).keep (hT.b.block g gl)
              have rr7 := HM5.out.rr.below hT.b HM5.out.rr.lt
              have ge7 := HM5.out.ge (by omega)
              have be7 := HM5.out.be.trans (hT.b.mono (by omega))
              have q0 := hT.a.cell 0
              have q1 := hT.a.cell 1
              have q2 := hT.t.cell 0
              have q3 := hT.t.cell 1
              have q4 := hT.t.cell 2
              have s0 := hS7.cell 0
              have s1 := hS7.cell 1
              simp at q0 q1 q2 q3 q4 s0 s1
              have s2 := hS7.frozen 0
              have s3 := hS7.frozen 1
              obtain ⟨tc0, tc1, tc2⟩ := rt7.cells hj
              rw [show 3 * j = j * 3 by omega, HSl.out, HSN.out, HSC.out] at tc0
              rw [show 3 * j + 1 = j * 3 + 1 by omega, HKD.out] at tc1
              rw [show 3 * j + 2 = j * 3 + 2 by omega] at tc2
              have t0 := rt7.frozen (j * 3)
              have t1 := rt7.frozen (j * 3 + 1)
              have t2 := rt7.frozen (j * 3 + 2)
              have v5 := hT.n5
              have v6 := hT.n6
              have c1 : S ≠ N5 := by omega
              have c2 : N5 ≠ S := by omega
              have c3 : S ≠ N6 := by omega
              have c4 : N6 ≠ S := by omega
              have c5 : g ≠ N5 := by omega
              have c6 : N5 ≠ g := by omega
              have c7 : g ≠ N6 := by omega
              have c8 : N6 ≠ g := by omega
              have c9 : S ≠ g := by omega
              have hgs := hT.h.unlike3 hS7 (by decide)
              have hgg : g6 ≠ g := by
                obtain ⟨cur, h1, _⟩ := rt7.at_
                exact hT.h.unlike3 h1 (by decide)
              have fin : ∀ W, Lies W S 32 #[.slice (some ⟨g6, 0, none⟩) 4 cap6, .int .i64 a1.k] → Held Xo W g6 a1.l → Lies W (S + 1) 32 #[.slice none 0 0, .int .i64 0] → RT W g n Sl (updF k.d j (kd + 1)) (updF k.s.x j (a1.x 0)) → Below S w W → RM Xo w S g n Sl (pickTo (AM B p c sb n LL) n (cfg0 xss) ps (m + 1)) W ∧ (pickTo (AM B p c sb n LL) n (cfg0 xss) ps (m + 1)).n = k.n + 1 := fun W h1 h2 h3 h4 h5 => by
                rw [hp1.out, HL.out, HKD.out]
                have e1 := act1_len k.s j y
                have e2 := act1_fit (s := k.s) j (x := y) HM5.out.fit hyv
                have e3 := (act1_k k.s j y).1
                have e4 := HM5.out.k0
                have e5 := HM5.out.len
                rw [HL.out] at e1 e2 e3
                exact ⟨⟨⟨g6, cap6, h1, h2⟩, h3, fun _ => h4, fun _ => ge7, h5, e1.trans e5, e2, by dsimp only at e3 ⊢; omega⟩, rfl⟩
              have rt8 := (rt7.keep (Below.heap_setCell wc ⟨S, 0, none⟩ (.slice (some ⟨g6, 0, none⟩) 4 cap6) g n1)).keep (Below.heap_setCell _ ⟨S, 1, none⟩ (.int .i64 a1.k) g n1)
              have set3 := rt8.set j hj (kd + 1) (a1.x 0)
              rw [HSl.out, HSN.out, HSC.out, show 3 * j = j * 3 by omega, show ((kd + 1 : Nat) : Int) = (kd : Int) + 1 by omega] at set3
              have m1 : S + 1 ≠ g := by omega
              have FIN := Lib.hid (fin _ (((((hS7.set 0 _).set 1 _).far (p := ⟨g, j * 3, none⟩) c9 _).far (p := ⟨g, j * 3 + 1, none⟩) c9 _).far (p := ⟨g, j * 3 + 2, none⟩) c9 _)
                (((((hT.h.far (p := ⟨S, 0, none⟩) hgs _).far (p := ⟨S, 1, none⟩) hgs _).far (p := ⟨g, j * 3, none⟩) hgg _).far (p := ⟨g, j * 3 + 1, none⟩) hgg _).far (p := ⟨g, j * 3 + 2, none⟩) hgg _)
                (((((rr7.far (p := ⟨S, 0, none⟩) (Nat.succ_ne_self S) _).far (p := ⟨S, 1, none⟩) (Nat.succ_ne_self S) _).far (p := ⟨g, j * 3, none⟩) m1 _).far (p := ⟨g, j * 3 + 1, none⟩) m1 _).far (p := ⟨g, j * 3 + 2, none⟩) m1 _)
                set3
                (((((be7.setCell (p := ⟨S, 0, none⟩) (Nat.le_refl _) _).setCell (p := ⟨S, 1, none⟩) (Nat.le_refl _) _).setCell (p := ⟨g, j * 3, none⟩) (by simp; omega) _).setCell (p := ⟨g, j * 3 + 1, none⟩) (by simp; omega) _).setCell (p := ⟨g, j * 3 + 2, none⟩) (by simp; omega) _))
              clear fin set3 rt8 rt7 rr7 be7 hT hS7 hgs hgg HM5 hH5 hS5 HL hp1 hP hl hx hH
              go_wp2
              go_roundw
              case rel => exact ⟨m + 1, by omega, by go_num, by rw [FIN.out.2]; go_num, FIN.out.1⟩
              case measure => simp [intOf]; omega
      · obtain rfl : m = np := by omega
        obtain ⟨g5, cap5, hS5, hH5⟩ := hM.ar
        have s0 := hS5.cell 0
        have s1 := hS5.cell 1
        have r0 := hM.rr.cell 0
        have r1 := hM.rr.cell 1
        simp at s0 s1 r0 r1
        have r2 := hM.rr.frozen 0
        have r3 := hM.rr.frozen 1
        have hgs := hH5.unlike3 hM.rr (by decide)
        have gs : 0 < n → g ≠ S + 1 := fun h => by have := hM.ge h; omega
        generalize hk' : pickTo (AM B p c sb n LL) n (cfg0 xss) ps m = k at *
        have HK := Lib.hid hk'
        clear hk'
        go_wp2
        all_goals
          refine bodyPost_ret (v := .tuple #[.agg #[.slice (some ⟨g5, 0, none⟩) 4 cap5, .int .i64 k.s.k], .slice (some ⟨g, 0, none⟩) n cg, .int .i64 k.n]) (by simp [results, Try.results11, go_sem, r0, r1]) rfl ⟨g5, cap5, g, cg, by rw [HK.out], ?_, ?_, ?_⟩
          · rw [HK.out]
            exact (hH5.far (p := ⟨S + 1, 0, none⟩) hgs _).far (p := ⟨S + 1, 1, none⟩) hgs _
          · rw [HK.out]
            exact fun h => ((hM.rt h).keep (Below.heap_setCell _ ⟨S + 1, 0, none⟩ _ g (gs h))).keep (Below.heap_setCell _ ⟨S + 1, 1, none⟩ _ g (gs h))
          · rw [HS.out]
            exact (hM.be.setCell (p := ⟨S + 1, 0, none⟩) (Nat.le_succ _) _).setCell (p := ⟨S + 1, 1, none⟩) (Nat.le_succ _) _

end Go.Proofs.Ytbkopghghoolmaa
