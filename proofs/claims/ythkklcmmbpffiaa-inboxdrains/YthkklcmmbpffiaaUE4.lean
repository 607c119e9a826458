/- Layer 8's code of acts. -/
import Derived.Test.YthkklcmmbpffiaaUE3
import Derived.Handy
import Derived.RegionTactic
import Derived.BigQuiet
import Derived.WalkSpells
import Derived.Lib.Hide
namespace Go.Proofs.Ythkklcmmbpffiaa
open Go.RowKit
set_option maxRecDepth 100000

theorem own_slice {w : World} {B : Nat} {v : Value} {n : Nat} {xs : List Value} (h : w.ownsRow B 3 1 v n xs) : ∃ A c, v = .slice A n c ∧ n ≤ c := by
  rcases h.2 with ⟨rfl, h0⟩ | ⟨g, cap, cur, rfl, _, _, hn, _⟩
  · exact ⟨none, 0, by rw [h0], by omega⟩
  · exact ⟨_, cap, rfl, by omega⟩

section
variable {P : SP}
set_option maxHeartbeats 1000000 in
theorem code_g (hG : P.Good) : ∀ (m : Nat) (l : List Bool), CodeS P m l := by
  intro m
  induction m using Nat.strongRecOn with
  | _ m ih =>
    intro l
    induction l with
    | nil =>
      intro j A cp w r s hj hB hcp hi
      have hM := sm_ok P hG
      have hw := hM.okw _ _ _ hi
      obtain ⟨W2, hW2⟩ : ∃ W2, (((w.alloc (.cells (stC P) 27)).alloc (.cells #[.slice A 0 cp] 22)).alloc (.cells #[ptr (P.wb j)] 30)) = W2 := ⟨_, rfl⟩
      have k2 : Turns [] w W2 := by rw [← hW2]; exact (((Turns.refl _ _).alloc _).alloc _).alloc _
      have l1 : Lies W2 (w.heap.size + 1) 22 #[.slice A 0 cp] := by rw [← hW2]; exact (Lies.new_of _ _ (by simp)).alloc _
      have d0 : W2.cell? ⟨w.heap.size + 1, 0, none⟩ = some (.slice A 0 cp) := l1.cell 0
      have hi2 := SI.tasks (Mv.of_turns k2 (by simp) (fun x hx => by cases hx)) hi
      have f2 := hw.fr hM k2
      show (SM P).Then _ #[stV P, .slice A 0 cp, ptr (P.wb j)] w (fun v w' => SI P r s w' ∧ (SM P).Code m ⟨j, .done, []⟩ v w')
      clear ih
      unfold Gm.Then
      go_enter Try.func15, Try.ntmps15
      go_wp2_with fail
      go_ret
      exact ⟨_, rfl, ⟨hi2, by cases m <;> exact .inl ⟨rfl, rfl⟩⟩, f2⟩
    | cons b l ihl =>
      intro j A cp w r s hj hB hcp hi
      have hM := sm_ok P hG
      have hw := hM.okw _ _ _ hi
      have hcp : l.length + 1 ≤ cp := hcp
      obtain ⟨W2, hW2⟩ : ∃ W2, (((w.alloc (.cells (stC P) 27)).alloc (.cells #[.slice A (l.length + 1) cp] 22)).alloc (.cells #[ptr (P.wb j)] 30)) = W2 := ⟨_, rfl⟩
      have k2 : Turns [] w W2 := by rw [← hW2]; exact (((Turns.refl _ _).alloc _).alloc _).alloc _
      have l0 : Lies W2 w.heap.size 27 (stC P) := by rw [← hW2]; exact ((Lies.new _ _ _).alloc _).alloc _
      have l1 : Lies W2 (w.heap.size + 1) 22 #[.slice A (l.length + 1) cp] := by rw [← hW2]; exact (Lies.new_of _ _ (by simp)).alloc _
      have l2 : Lies W2 (w.heap.size + 1 + 1) 30 #[ptr (P.wb j)] := by rw [← hW2]; exact Lies.new_of _ _ (by simp)
      have y1 := hw.box hM k2 (by omega) l0 (by decide)
      have y2 := hw.box hM k2 (by omega) l1 (by decide)
      have y0 := hw.box hM k2 (by omega) l2 (by decide)
      have hi2 := SI.tasks (Mv.of_turns k2 (by simp) (fun x hx => by cases hx)) hi
      have f2 := hw.fr hM k2
      have hB2 := hB.mv f2.mv
      obtain ⟨a, ha, hc⟩ := hB2.head
      subst ha
      have d0 : W2.cell? ⟨w.heap.size + 1, 0, none⟩ = some (.slice (some a) (l.length + 1) cp) := l1.cell 0
      have e0 := y0.cell
      obtain ⟨c0, c1, c2⟩ : W2.cell? ⟨w.heap.size, 0, none⟩ = some (ptr P.p) ∧ W2.cell? ⟨w.heap.size, 1, none⟩ = some (.int .i64 0) ∧ W2.cell? ⟨w.heap.size, 2, none⟩ = some (.func (.func 38) #[] #[]) := ⟨l0.cell 0, l0.cell 1, l0.cell 2⟩
      have hl1 : ¬ ((l.length : Int) + 1 = 0) := by omega
      obtain ⟨v, hwk, hown⟩ := hi2.wk j hj
      generalize hbs : w.heap.size = bs at *
      cases b with
      | true =>
        have f23 : W2.frozen? ⟨P.wb j, 2, none⟩ = false := hwk.frozen 2
        have f33 : W2.frozen? ⟨P.wb j, 3, none⟩ = false := hwk.frozen 3
        have q2 : W2.cell? ⟨P.wb j, 2, none⟩ = some (.bool (s.bu j)) := hwk.cell 2
        have q3 : W2.cell? ⟨P.wb j, 3, none⟩ = some (.bool (s.ba j)) := hwk.cell 3
        show (SM P).Then _ #[stV P, .slice (some a) (l.length + 1) cp, ptr (P.wb j)] w (fun v w' => SI P r { s with bu := updF s.bu j true, ba := updF s.ba j false } w' ∧ (SM P).Code m ⟨j, .popR, l⟩ v w')
        have hbl := hB2.most
        simp only [List.length_cons] at hbl
        clear ihl hwk hown l0 l1 l2
        unfold Gm.Then
        go_enter Try.func15, Try.ntmps15
        go_upto_region 4 with (fail)
        clear hW2
        go_cut [14] (fun _ wc => SI P r { s with bu := updF s.bu j true, ba := updF s.ba j false } wc ∧ Fr P.L P.ws W2 wc)
        case first =>
          have tud : Turns [] W2 W2.drew := (Turns.refl [] _).drew
          have hi1 := SI.tasks (Mv.of_turns tud (by simp) (fun x hx => by cases hx)) hi2
          have m2 := hi1.mark hG j hj 2 (.inl rfl) true
          have n2 := hi1.mark_fr hG j hj 2 (.inl rfl) true
          have m3 := hi1.mark hG j hj 3 (.inr (.inl rfl)) false
          have n3 := hi1.mark_fr hG j hj 3 (.inr (.inl rfl)) false
          have m23 := m2.mark hG j hj 3 (.inr (.inl rfl)) false
          have n23 := m2.mark_fr hG j hj 3 (.inr (.inl rfl)) false
          have m32 := m3.mark hG j hj 2 (.inl rfl) true
          have n32 := m3.mark_fr hG j hj 2 (.inl rfl) true
          have fd := (hM.okw _ _ _ hi2).fr hM tud
          clear y0 y1 y2 hi hi2 hB hB2 f2
          go_region
          all_goals
            go_wp2_with fail
            go_meet
            case rel => first | exact ⟨m23, (fd.trans n2).trans n23⟩ | exact ⟨m32, (fd.trans n3).trans n32⟩
        case rest =>
          obtain ⟨hi4, f4⟩ := hcut
          have mv4 : Mv P.B (P.L ++ P.ex) P.ws W2 wc := f4.mv
          have y0 := y0.mv mv4
          have y1 := y1.mv mv4
          have y2 := y2.mv mv4
          have hB4 := hB2.mv mv4
          have hp := pop_g (smAr P hG) hM (sm_ch P hG) (sm_pop P hG j l) m 40 #[ptr (bs + 1 + 1), ptr bs, ptr (bs + 1)] wc ent_code1 (hM.okw _ _ _ hi4) (sm_lk P wc) (code1_g hG hj y0 y1 y2 hB4 hcp (fun n hn => ih n hn l))
          obtain ⟨c0, c1, c2⟩ : wc.cell? ⟨bs, 0, none⟩ = some (ptr P.p) ∧ wc.cell? ⟨bs, 1, none⟩ = some (.int .i64 0) ∧ wc.cell? ⟨bs, 2, none⟩ = some (.func (.func 38) #[] #[]) := ⟨y1.l.cell 0, y1.l.cell 1, y1.l.cell 2⟩
          have fin : ∀ W v, Turns [] wc W → (SM P).Code m ⟨j, .popR, l⟩ v W → (SI P r { s with bu := updF s.bu j true, ba := updF s.ba j false } W ∧ (SM P).Code m ⟨j, .popR, l⟩ v W) ∧ Fr P.L P.ws w W := fun W v tu hc =>
            ⟨⟨hM.made tu hi4, hc⟩, (f2.trans f4).trans ((hM.okw _ _ _ hi4).fr hM tu)⟩
          clear ih y0 y1 y2 hB4 hB2 mv4 hi hi2 hi4 f4 f2
          unfold Gm.Makes at hp
          go_wp2_with fail
          refine hp.mono ?_
          rintro e w5 ⟨v, rfl, hc5, t5⟩
          go_wp2
          go_ret
          exact ⟨v, rfl, fin _ _ t5 hc5⟩
      | false =>
        by_cases hne : s.hs j = []
        · have hst : startS j (false :: l) s = startS j l s := by
            show (match (s.hs j).getLast? with | none => startS j l s | some i => (⟨j, .pushR i, l⟩, s)) = _
            rw [hne]
            rfl
          obtain ⟨A0, cv, rfl, _⟩ := own_slice hown
          have h0 : (s.hs j).length = 0 := by rw [hne]; rfl
          rw [h0] at hwk
          have q0 : W2.cell? ⟨P.wb j, 0, none⟩ = some (.slice A0 0 cv) := hwk.cell 0
          have hsl := slice_tail1 (t := 22) (e := 4) Try.underlying22 (by kernel_rfl) (some a) (l.length + 1) cp (by omega)
          rw [Nat.add_sub_cancel] at hsl
          have e2 := d0
          have tu3 : Turns [] W2 W2.drew := (Turns.refl [] _).drew
          have okw3 := hM.okw _ _ _ hi2
          have hI4 := SI.tasks (Mv.of_turns tu3 (by simp) (fun x hx => by cases hx)) hi2
          have ht := ihl j (tailO (some a) cp) (cp - 1) _ r s hj ((hB2.tail (cp := cp) hcp).mv (okw3.mv hM tu3)) (by omega) hI4
          have hF4 := f2.trans (okw3.fr hM tu3)
          have oo := (fun (b : Nat) (t : TypeId) (cs : Array Value) (y : (SM P).Bx W2 b t cs) (W : World) (f : Fr P.L P.ws W2.drew W) => (f.lies (y.l.drew) y.out y.row))
          rw [hst]
          have hbl := hB2.most
          simp only [List.length_cons] at hbl
          generalize startS j l s = R at *
          clear ihl ih hst hi hi2 hB2 hB hI4 hwk hown hne h0 f2 okw3
          unfold Gm.Then at *
          show Calls _ _ #[stV P, .slice (some a) (l.length + 1) cp, ptr (P.wb j)] _ _
          go_enter Try.func15, Try.ntmps15
          go_upto_region 7 with (fail)
          clear hW2 hbs
          go_region_held3 (fun W' => W'.cell? ⟨bs, 0, none⟩ = some (ptr P.p) ∧ W'.cell? ⟨bs, 1, none⟩ = some (.int .i64 0) ∧ W'.cell? ⟨bs, 2, none⟩ = some (.func (.func 38) #[] #[]) ∧ W'.cell? ⟨bs + 1, 0, none⟩ = some (.slice (some a) (l.length + 1) cp) ∧ W'.cell? ⟨bs + 1 + 1, 0, none⟩ = some (ptr (P.wb j)))
            (first | exact ⟨c0, c1, c2, e2, e0⟩ | exact ⟨u0, u1, u2, u3, u4⟩)
            (first
              | (go_at_call 15
                 refine ht.mono ?_
                 rintro e w5 ⟨v, rfl, hq5, t5⟩
                 have o1 := oo _ _ _ y1 _ t5
                 have u0 : w5.cell? ⟨bs, 0, none⟩ = some (ptr P.p) := o1.cell 0
                 have u1 : w5.cell? ⟨bs, 1, none⟩ = some (.int .i64 0) := o1.cell 1
                 have u2 : w5.cell? ⟨bs, 2, none⟩ = some (.func (.func 38) #[] #[]) := o1.cell 2
                 have u3 : w5.cell? ⟨bs + 1, 0, none⟩ = some (.slice (some a) (l.length + 1) cp) := (oo _ _ _ y2 _ t5).cell 0
                 have u4 : w5.cell? ⟨bs + 1 + 1, 0, none⟩ = some (ptr (P.wb j)) := (oo _ _ _ y0 _ t5).cell 0))
          go_wp2
          go_ret
          exact ⟨v, rfl, hq5, hF4.trans t5⟩
        · obtain ⟨q, hq⟩ : ∃ q, (s.hs j).length = q + 1 := ⟨(s.hs j).length - 1, by have := List.length_pos_iff.2 hne; omega⟩
          obtain ⟨x, hx⟩ : ∃ x, (s.hs j)[q]? = some x := ⟨_, List.getElem?_eq_getElem (by omega)⟩
          have hlast : (s.hs j).getLast? = some x := by rw [List.getLast?_eq_getElem?, hq]; exact hx
          have hxb := hi2.hb j hj x (List.mem_of_getElem? hx)
          have hst : startS j (false :: l) s = (⟨j, .pushR x, l⟩, s) := by
            show (match (s.hs j).getLast? with | none => startS j l s | some i => (⟨j, .pushR i, l⟩, s)) = _
            rw [hlast]
          obtain ⟨g, c, rfl, hBg, hglt⟩ := hown.form (by omega)
          rw [hq] at hwk
          have q0 : W2.cell? ⟨P.wb j, 0, none⟩ = some (.slice (some ⟨g, 0, none⟩) (q + 1) c) := hwk.cell 0
          have q1 : W2.cell? ⟨g, q, none⟩ = some (.int .i64 x) := by
            rcases hown.2 with ⟨h0, _⟩ | ⟨g', cap, cur, hv, _, hg, hnc, hcs⟩
            · cases h0
            · injection hv with hv _ _
              injection hv with hv
              injection hv with hv _ _
              subst hv
              rw [cell_of_row W2 g q cur 3 (0, 0) hg]
              have h1 : (intVs (s.hs j))[q]? = some (.int .i64 x) := by unfold intVs; rw [List.getElem?_map, hx]; rfl
              rw [← hcs.2.2, List.getElem?_take, if_pos (by omega)] at h1
              simpa using h1
          have hmx : q < 100000 := by have := (hi2.size j hj).1; omega
          have hwq : IntKind.i64.wrap (q : Int) = q := by rw [IntKind.wrap_i64]; omega
          have hwq1 : IntKind.i64.wrap ((q : Int) + 1 - 1) = q := by rw [IntKind.wrap_i64]; omega
          have hq0 : ¬ ((q : Int) + 1 = 0) := by omega
          have few := hG.few
          have tu3 : Turns [] W2 W2.drew := (Turns.refl [] _).drew
          have okw3 := hM.okw _ _ _ hi2
          have hi4 := SI.tasks (Mv.of_turns tu3 (by simp) (fun x hx => by cases hx)) hi2
          have mv4 := okw3.mv hM tu3
          have z0 := y0.mv mv4
          have z1 := y1.mv mv4
          have z2 := y2.mv mv4
          have hp := push_g (smAr P hG) hM (sm_ch P hG) (i := x) ⟨hxb.1, hxb.2⟩ (sm_push P hG j x l) m 42 #[ptr (bs + 1 + 1), ptr bs, ptr (bs + 1)] W2.drew ent_code2 (hM.okw _ _ _ hi4) (sm_lk P _) ((sm_ch P hG).begin ⟨hxb.1, hxb.2⟩ hi4) (code2_g hG hj z0 z1 z2 (hB2.mv mv4) hcp (fun n hn => ih n hn l))
          have fin : ∀ W v, Turns [] W2.drew W → (SM P).Code m ⟨j, .pushR x, l⟩ v W → (SI P r s W ∧ (SM P).Code m ⟨j, .pushR x, l⟩ v W) ∧ Fr P.L P.ws w W := fun W v tu hc =>
            ⟨⟨hM.made tu hi4, hc⟩, (f2.trans (okw3.fr hM tu3)).trans ((hM.okw _ _ _ hi4).fr hM tu)⟩
          rw [hst]
          have hbl := hB2.most
          simp only [List.length_cons] at hbl
          clear ihl ih hst hi hi2 hB2 hB hi4 hwk hown hne f2 okw3 z0 z1 z2 y0 y1 y2 mv4 hlast hx hq
          unfold Gm.Then Gm.Makes at *
          show Calls _ _ #[stV P, .slice (some a) (l.length + 1) cp, ptr (P.wb j)] _ _
          go_enter Try.func15, Try.ntmps15
          go_upto_region 8 with (fail)
          clear hW2 hbs
          go_region
          go_wp2_with fail
          refine hp.mono ?_
          rintro e w5 ⟨v, rfl, hc5, t5⟩
          go_wp2
          go_ret
          exact ⟨v, rfl, fin _ _ t5 hc5⟩
end

end Go.Proofs.Ythkklcmmbpffiaa

/- The chain's things, told without a step. -/
namespace Go.Proofs.Ythkklcmmbpffiaa
open Go.RowKit
set_option maxRecDepth 100000

theorem at_any (b : Nat) (l : List Int) (i : Int) (w : World) (h : Lies w b 75 (nums l)) :
    Calls Try.prog 72 #[.slice (some ⟨b, 0, none⟩) l.length l.length, .int .i64 i] w fun e w' => e = .returned (.int .u64 (getA l i)) ∧ w' = w := by
  by_cases h0 : i < 0
  · have e0 : getA l i = 0 := getA_out (by unfold hasA; simp; omega)
    rw [e0]
    go_enter Try.func72, Try.ntmps72
    go_wp2
    go_ret
    exact ⟨rfl, rfl⟩
  · by_cases h1 : (l.length : Int) ≤ i
    · have e0 : getA l i = 0 := getA_out (by unfold hasA; simp; omega)
      rw [e0]
      go_enter Try.func72, Try.ntmps72
      go_wp2
      go_ret
      exact ⟨rfl, rfl⟩
    · obtain ⟨m, rfl⟩ : ∃ m : Nat, i = m := ⟨i.toNat, by omega⟩
      have hc := h.cell m
      rw [nums_at (by omega)] at hc
      have hm : (m : Int) < l.length := by omega
      have h1 : ¬ ((l.length : Int) ≤ (m : Int)) := h1
      go_enter Try.func72, Try.ntmps72
      go_wp2
      go_ret
      exact ⟨rfl, rfl⟩

/-- the things from x on, so many of them at most. -/
def chL (l : List Int) (lk : Int → Int) : Nat → Int → List Int
  | 0, _ => []
  | n + 1, x => if x = -1 then [] else x :: chL l lk n (lkd (getA l (lk x)))

theorem chL_stop (l : List Int) (lk : Int → Int) (n : Nat) : chL l lk n (-1) = [] := by
  cases n with
  | zero => rfl
  | succ n => exact if_pos rfl

theorem Out.made {w W W' : World} {v : Value} {xs : List Int} (h : Out w v xs W) (k : Turns [] W W') : Out w v xs W' :=
  ⟨h.row.below (k.below (by simp) (Nat.le_refl _)) (Nat.le_refl _), h.be.trans ((k.below (by simp) (Nat.le_refl _)).mono h.be.size)⟩

/-- within the loop: so many rounds are through, x is next, xs were told; w3 is the world ahead of it. -/
structure InL (w3 : World) (l : List Int) (lk : Int → Int) (D : Int → Prop) (all : List Int) (v : Value) (x : Int) (m : Nat) (W : World) : Prop where
  le : m ≤ l.length
  ix : x = -1 ∨ D x
  out : ∃ xs, Out w3 v xs W ∧ xs.length ≤ m ∧ xs ++ chL l lk (l.length - m) x = all

set_option maxHeartbeats 1000000 in
theorem follow_any (bt : Nat) (x0 : Int) (lf : FuncId) (lcap : Array Value) (lk : Int → Int) (l : List Int) (w : World) (hc : Lies w bt 75 (nums l)) (hF : ∀ i, N64 (getA l i)) (hE : Ent lf) (hn : l.length ≤ 10000)
    (D : Int → Prop) (hD : ∀ i, D i → 0 ≤ i ∧ i ≤ 4611686018427387904) (h0 : x0 = -1 ∨ D x0) (hx : ∀ i, D i → lkd (getA l (lk i)) = -1 ∨ D (lkd (getA l (lk i))))
    (hL : ∀ W i, D i → Calls Try.prog lf (#[.int .i64 i] ++ lcap) W fun e W' => e = .returned (.int .i64 (lk i)) ∧ Turns [] W W') :
    Calls Try.prog 70 #[.slice (some ⟨bt, 0, none⟩) l.length l.length, .int .i64 x0, .func (.func lf) #[] lcap] w fun e w' => ∃ v, e = .returned v ∧ IRow w' w.heap.size v (chL l lk l.length x0) ∧ Below w.heap.size w w' := by
  unfold Ent at hE
  obtain ⟨all, hall⟩ : ∃ all, chL l lk l.length x0 = all := ⟨_, rfl⟩
  rw [hall]
  have ut := hc.lt
  have hat : InL w l lk D all (.slice none 0 0) x0 0 w := ⟨Nat.zero_le _, h0, [], ⟨IRow.nil _ _, Below.refl _ _⟩, by simp, by rw [← hall]; rfl⟩
  have fin : ∀ v W xs, Out w v xs W → xs = all → IRow W w.heap.size v all ∧ Below w.heap.size w W := fun v W xs ho e => by
    subst e
    exact ⟨ho.row, ho.be⟩
  clear hall h0
  go_enter Try.func70, Try.ntmps70
  go_wp2_with fail
  go_loopw [7, 8, 12] (fun v i cc W => ∃ (m : Nat) (x : Int), cc = .int .i64 (m : Int) ∧ i = .int .i64 x ∧ InL w l lk D all v x m W) (fun _ _ cc _ => l.length - (intOf cc).toNat)
  case atStart => exact ⟨0, _, rfl, rfl, hat⟩
  case round =>
    clear hat
    obtain ⟨m, x, rfl, rfl, hI⟩ := hrel
    obtain ⟨xs, ho, hxm, hxs⟩ := hI.out
    have hle := hI.le
    by_cases hlt : m < l.length
    · by_cases hx1 : x = -1
      · subst hx1
        rw [chL_stop, List.append_nil] at hxs
        have F := fin _ _ _ ho hxs
        clear fin ho hI
        go_wp2_with fail
        go_ret
        exact ⟨_, rfl, F⟩
      · have hix : D x := by
          rcases hI.ix with h1 | h1
          · exact absurd h1 hx1
          · exact h1
        have hxb := hD x hix
        have hx' : (x == -1) = false := by simp [hx1]
        have hwf : (Lit.int .i64 x).wf = true := WalkArith.wf_i64 (by omega)
        have q5 := hc.below ho.be ut
        have F : ∀ v' W', Out w v' (xs ++ [x]) W' → InL w l lk D all v' (lkd (getA l (lk x))) (m + 1) W' := fun v' W' ho' =>
          ⟨by omega, hx x hix, xs ++ [x], ho', by simp; omega, by
            rw [← hxs]
            obtain ⟨d, hd⟩ : ∃ d, l.length - m = d + 1 := ⟨l.length - m - 1, by omega⟩
            rw [hd, show l.length - (m + 1) = d by omega]
            show xs ++ [x] ++ chL l lk d (lkd (getA l (lk x))) = xs ++ (if x = -1 then [] else x :: chL l lk d (lkd (getA l (lk x))))
            rw [if_neg hx1, List.append_assoc]
            rfl⟩
        have hLx := fun W => hL W x hix
        clear fin hI hL hx hD
        go_wp2_with (first | (at_builtin; refine wpList_out ho hwf (by omega) (by rfl) (.tmp 16) (.tmp 18) rfl rfl rfl ?_; intro vv w6 ho6; have q7 := hc.below ho6.be ut) | fail)
        clear q5 ho
        refine (hLx _).mono ?_
        rintro e w7 ⟨rfl, t7⟩
        have q8 := q7.turn t7 (by simp)
        have F := F _ _ (ho6.made t7)
        clear q7 ho6 t7
        go_wp2_with fail
        refine (at_any bt l (lk x) w7 q8).mono ?_
        rintro e w8 ⟨rfl, rfl⟩
        go_wp2_with fail
        refine (linked_g (getA l (lk x)) (hF _) _).mono ?_
        rintro e w9 ⟨rfl, rfl⟩
        go_wp2
        go_roundw
        case rel => exact ⟨m + 1, _, by go_num, rfl, F⟩
        case measure => simp [intOf]; omega
    · obtain rfl : m = l.length := by omega
      rw [Nat.sub_self] at hxs
      have F := fin _ _ _ ho (by rw [← hxs]; simp [chL])
      clear fin ho hI
      go_wp2_with fail
      go_ret
      exact ⟨_, rfl, F⟩

theorem IRow.less {W : World} {B B' : Nat} {v : Value} {xs : List Int} (h : IRow W B v xs) (k : B' ≤ B) : IRow W B' v xs := by
  refine ⟨⟨h.own.1, ?_⟩, h.ints⟩
  rcases h.own.2 with h1 | ⟨g, cap, cur, h1, h2, h3⟩
  · exact .inl h1
  · exact .inr ⟨g, cap, cur, h1, Nat.le_trans k h2, h3⟩

theorem chlist_any (p c : Nat) (h : Int) (lf : FuncId) (lcap : Array Value) (lk : Int → Int) (l : List Int) (k : Int) (w : World) (ha : Arena w p c l k) (hE : Ent lf) (hn : l.length ≤ 10000)
    (D : Int → Prop) (hD : ∀ i, D i → 0 ≤ i ∧ i ≤ 4611686018427387904) (h0 : hIx (getA l h) = -1 ∨ D (hIx (getA l h))) (hx : ∀ i, D i → lkd (getA l (lk i)) = -1 ∨ D (lkd (getA l (lk i))))
    (hL : ∀ W i, D i → Calls Try.prog lf (#[.int .i64 i] ++ lcap) W fun e W' => e = .returned (.int .i64 (lk i)) ∧ Turns [] W W') :
    Calls Try.prog 44 #[chV p h lf lcap] w fun e w' => ∃ v, e = .returned v ∧ IRow w' w.heap.size v (chL l lk l.length (hIx (getA l h))) ∧ Below w.heap.size w w' := by
  have l0 : Lies (w.alloc (.cells (chC p h lf lcap) 93)) w.heap.size 93 (chC p h lf lcap) := Lies.new _ _ _
  have k0 : Turns [] w (w.alloc (.cells (chC p h lf lcap) 93)) := (Turns.refl _ _).alloc _
  have ha1 := ha.turn k0 (by simp) (by simp)
  have hall := all_any p c l k _ ha1
  obtain ⟨c0, c1, c2⟩ := ch_cells l0
  have hz : (w.alloc (.cells (chC p h lf lcap) 93)).heap.size = w.heap.size + 1 := by simp
  have hF : ∀ i, N64 (getA l i) := fun i => ha.fitA i
  have hfw := fun bt W h1 => follow_any bt (hIx (getA l h)) lf lcap lk l W h1 hF hE hn D hD h0 hx hL
  have hN : N64 (getA l h) := ha.fitA h
  obtain ⟨all, hal⟩ : ∃ all, chL l lk l.length (hIx (getA l h)) = all := ⟨_, rfl⟩
  rw [hal] at hfw ⊢
  clear hL hx hD h0 hal
  unfold Ent at hE
  go_enter Try.func44, Try.ntmps44
  go_wp2_with fail
  generalize (w.alloc (.cells (chC p h lf lcap) 93)) = W1 at *
  refine hall.mono ?_
  rintro e w2 ⟨rfl, t1, t2, t3⟩
  have l2 := l0.below t2 (by rw [hz]; omega)
  have b2 : Below w.heap.size w w2 := (k0.below (by simp) (Nat.le_refl _)).trans (t2.mono (by rw [hz]; omega))
  clear hall l0 k0 ha1 c0 c1 c2 t2 ha hF hE
  obtain ⟨c0, c1, c2⟩ := ch_cells l2
  have hfh := fun W => field_head1 (hCt (getA l h)) (hIx (getA l h)) W
  generalize hbt : W1.heap.size = bt at *
  have g0 := l2.lt
  have at_ : ∀ W', Turns [] w2 W' → Lies W' bt 75 (nums l) := fun W' k => t1.turn k (by simp)
  have sz := b2.size
  have fin : ∀ W' W'' v, Turns [] w2 W' → IRow W'' W'.heap.size v all → Below W'.heap.size W' W'' → IRow W'' w.heap.size v all ∧ Below w.heap.size w W'' := fun W' W'' v k h1 h2 =>
    ⟨h1.less (Nat.le_trans sz k.size), b2.trans ((k.below (B := w.heap.size) (by simp) sz).trans (h2.mono (Nat.le_trans sz k.size)))⟩
  clear t1 l2 b2 hbt hz sz
  go_wp2_with fail
  go_region_held3 (fun W' => W'.cell? ⟨w.heap.size, 1, none⟩ = some (.int .i64 h) ∧ W'.cell? ⟨w.heap.size, 2, none⟩ = some (.func (.func lf) #[] lcap))
    (first | exact ⟨c1, c2⟩ | exact ⟨d1, d2⟩ | exact ⟨u1, u2⟩ | exact ⟨v1, v2⟩)
    (first
      | (go_at_call 72
         refine (at_any bt l h _ (at_ _ (Turns.refl [] w2).drew)).mono ?_
         rintro e w3 ⟨rfl, rfl⟩
         have k3 : Turns [] w2 w2.drew := (Turns.refl [] w2).drew
         have d1 := (k3.cell (p := ⟨w.heap.size, 1, none⟩) g0 (by simp)).trans c1
         have d2 := (k3.cell (p := ⟨w.heap.size, 2, none⟩) g0 (by simp)).trans c2)
      | (go_at_call 71
         refine (headof_g (getA l h) hN _).mono ?_
         rintro e w4 ⟨rfl, t4⟩
         have k4 := k3.trans t4
         have u1 := (k4.cell (p := ⟨w.heap.size, 1, none⟩) g0 (by simp)).trans c1
         have u2 := (k4.cell (p := ⟨w.heap.size, 2, none⟩) g0 (by simp)).trans c2)
      | (go_at_call 70
         refine (hfw bt _ (at_ _ k4)).mono ?_
         rintro e w5 ⟨v, rfl, h5, b5⟩
         have F := fin _ _ _ k4 h5 b5
         have v1 := (b5.cell (p := ⟨w.heap.size, 1, none⟩) (Nat.lt_of_lt_of_le g0 k4.size)).trans u1
         have v2 := (b5.cell (p := ⟨w.heap.size, 2, none⟩) (Nat.lt_of_lt_of_le g0 k4.size)).trans u2))
  all_goals
    go_wp2
    go_ret
    exact ⟨_, rfl, F⟩

end Go.Proofs.Ythkklcmmbpffiaa

/- A stack's things; a stack without things. -/
namespace Go.Proofs.Ythkklcmmbpffiaa
open Go.RowKit
set_option maxRecDepth 100000

theorem stlist_any (p c : Nat) (h : Int) (lf : FuncId) (lcap : Array Value) (lk : Int → Int) (l : List Int) (k : Int) (w : World) (ha : Arena w p c l k) (hE : Ent lf) (hn : l.length ≤ 10000)
    (D : Int → Prop) (hD : ∀ i, D i → 0 ≤ i ∧ i ≤ 4611686018427387904) (h0 : hIx (getA l h) = -1 ∨ D (hIx (getA l h))) (hx : ∀ i, D i → lkd (getA l (lk i)) = -1 ∨ D (lkd (getA l (lk i))))
    (hL : ∀ W i, D i → Calls Try.prog lf (#[.int .i64 i] ++ lcap) W fun e W' => e = .returned (.int .i64 (lk i)) ∧ Turns [] W W') :
    Calls Try.prog 20 #[chV p h lf lcap] w fun e w' => ∃ v, e = .returned v ∧ IRow w' w.heap.size v (chL l lk l.length (hIx (getA l h))) ∧ Below w.heap.size w w' := by
  have k0 : Turns [] w (w.alloc (.cells (chC p h lf lcap) 27)) := (Turns.refl _ _).alloc _
  have hc := chlist_any p c h lf lcap lk l k _ (ha.turn k0 (by simp) (by simp)) hE hn D hD h0 hx hL
  clear hL hx hD h0
  have fin : ∀ W' v xs, IRow W' (w.alloc (.cells (chC p h lf lcap) 27)).heap.size v xs → Below (w.alloc (.cells (chC p h lf lcap) 27)).heap.size (w.alloc (.cells (chC p h lf lcap) 27)) W' → IRow W' w.heap.size v xs ∧ Below w.heap.size w W' := fun W' v xs h1 h2 =>
    ⟨h1.less k0.size, (k0.below (by simp) (Nat.le_refl _)).trans (h2.mono k0.size)⟩
  clear k0
  go_enter Try.func20, Try.ntmps20
  go_wp2_with fail
  refine hc.mono ?_
  rintro e w2 ⟨v, rfl, h1, h2⟩
  have F := fin _ _ _ h1 h2
  clear fin h1 h2 hc
  go_wp2
  go_ret
  exact ⟨v, rfl, F⟩

theorem fresh8_any (n : Nat) (hn : n ≤ 1000) (w : World) :
    Calls Try.prog 13 #[.int .i64 n] w fun e w' => ∃ p c, e = .returned (.tuple #[chV p 0 38 #[], .bool true]) ∧ Arena w' p c (List.replicate (n + 1) 0) 0 ∧ Below w.heap.size w w' ∧ w.heap.size ≤ c ∧ c < p := by
  have hm := new_any (n + 1) (w.alloc (.cells #[.pointer none, .int .i64 0, .nilFunc] 27)) (by omega) (by omega)
  have hw : IntKind.i64.wrap (1 + (n : Int)) = ((n + 1 : Nat) : Int) := by rw [IntKind.wrap_i64]; omega
  have hz : (w.alloc (.cells #[.pointer none, .int .i64 0, .nilFunc] 27)).heap.size = w.heap.size + 1 := by simp
  go_enter Try.func13, Try.ntmps13
  go_wp2_with fail
  refine (show Calls Try.prog 37 #[.int .i64 ((n : Int) + 1)] _ _ from hm).mono ?_
  rintro e w2 ⟨rfl, h1, h2, h3⟩
  have lS := (Lies.new w 27 #[.pointer none, .int .i64 0, .nilFunc]).below h2 (by simp)
  have k2 : Below w.heap.size w w2 := ((Below.refl _ w).alloc (Nat.le_refl _) _).trans (h2.mono (by rw [hz]; omega))
  rw [hz] at h1
  simp only [hz]
  clear hm hz h2 h3 hw
  have hmf : ∀ (fn : Fn) (first cap : Array Value) (w : World), (Instr.makeFunc fn first cap).run Try.prog w = .ok (.func fn first cap) w := fun _ _ _ _ => rfl
  obtain ⟨c0, c1, c2⟩ : w2.cell? ⟨w.heap.size, 0, none⟩ = some (.pointer none) ∧ w2.cell? ⟨w.heap.size, 1, none⟩ = some (.int .i64 0) ∧ w2.cell? ⟨w.heap.size, 2, none⟩ = some .nilFunc := ⟨lS.cell 0, lS.cell 1, lS.cell 2⟩
  have f0 : w2.frozen? ⟨w.heap.size, 0, none⟩ = false := lS.frozen 0
  have f1 : w2.frozen? ⟨w.heap.size, 1, none⟩ = false := lS.frozen 1
  have f2 : w2.frozen? ⟨w.heap.size, 2, none⟩ = false := lS.frozen 2
  have y2 := fun (a : Addr) (f : FuncId) (c : Array Value) (w : World) => run_store Try.prog w a (.func (.func f) #[] c) .plain rfl
  go_wp2
  have lE : Lies (((w2.setCell ⟨w.heap.size, 0, none⟩ (.pointer (some ⟨w.heap.size + 1 + 1, 0, none⟩))).setCell ⟨w.heap.size, 1, none⟩ (.int .i64 0)).setCell ⟨w.heap.size, 2, none⟩ (.func (.func 38) #[] #[])) w.heap.size 27 #[.pointer (some ⟨w.heap.size + 1 + 1, 0, none⟩), .int .i64 0, .func (.func 38) #[] #[]] := ((lS.set 0 _).set 1 _).set 2 _
  have tu : Turns [w.heap.size] w2 (((w2.setCell ⟨w.heap.size, 0, none⟩ (.pointer (some ⟨w.heap.size + 1 + 1, 0, none⟩))).setCell ⟨w.heap.size, 1, none⟩ (.int .i64 0)).setCell ⟨w.heap.size, 2, none⟩ (.func (.func 38) #[] #[])) := (((Turns.refl [w.heap.size] w2).setCell (p := ⟨w.heap.size, 0, none⟩) (.inl (by simp)) _).setCell (p := ⟨w.heap.size, 1, none⟩) (.inl (by simp)) _).setCell (p := ⟨w.heap.size, 2, none⟩) (.inl (by simp)) _
  generalize (((w2.setCell ⟨w.heap.size, 0, none⟩ (.pointer (some ⟨w.heap.size + 1 + 1, 0, none⟩))).setCell ⟨w.heap.size, 1, none⟩ (.int .i64 0)).setCell ⟨w.heap.size, 2, none⟩ (.func (.func 38) #[] #[])) = W5 at *
  obtain ⟨e0, e1, e2⟩ : W5.cell? ⟨w.heap.size, 0, none⟩ = some (.pointer (some ⟨w.heap.size + 1 + 1, 0, none⟩)) ∧ W5.cell? ⟨w.heap.size, 1, none⟩ = some (.int .i64 0) ∧ W5.cell? ⟨w.heap.size, 2, none⟩ = some (.func (.func 38) #[] #[]) := ⟨lE.cell 0, lE.cell 1, lE.cell 2⟩
  refine bodyPost_ret (v := .tuple #[.agg #[.pointer (some ⟨w.heap.size + 1 + 1, 0, none⟩), .int .i64 0, .func (.func 38) #[] #[]], .bool true]) ?_ rfl ?_
  · clear y2 hmf c0 c1 c2 f0 f1 f2
    simp [results, Try.results13, go_sem, e0, e1, e2]
    try rfl
  exact ⟨_, _, rfl, h1.turn tu (by simp; omega) (by simp), k2.trans (tu.below (by simp) k2.size), by omega, by omega⟩

end Go.Proofs.Ythkklcmmbpffiaa

/- The document's Same. -/
namespace Go.Proofs.Ythkklcmmbpffiaa
open Go.RowKit

set_option maxHeartbeats 1000000 in
theorem rsame_any (A B : Option Addr) (n cp cq : Nat) (xs : List Int) (w : World) (hr : Row w .i64 A n xs) (hq : Row w .i64 B n xs) :
    Calls Try.prog 19 #[.slice A n cp, .slice B n cq] w fun e w' => e = .returned (.bool true) ∧ Below w.heap.size w w' := by
  have hmx := hr.most
  unfold maxLen at hmx
  go_enter Try.func19, Try.ntmps19
  go_wp2_with fail
  go_loopw [5] (fun i W => ∃ m : Nat, m ≤ n ∧ i = .int .i64 m ∧ Below w.heap.size w W) (fun i _ => n - (intOf i).toNat)
  case atStart => exact ⟨0, by omega, rfl, Below.refl _ _⟩
  case round =>
    obtain ⟨m, hmn, rfl, hb⟩ := hrel
    by_cases hlt : m < n
    · obtain ⟨a, rfl, hab, hcell⟩ := (hr.keep (Nat.le_refl _) hb).at_ (by omega)
      obtain ⟨b, rfl, hbb, hcell2⟩ := (hq.keep (Nat.le_refl _) hb).at_ (by omega)
      have hc := hcell m hlt
      have hd := hcell2 m hlt
      clear hcell hcell2
      generalize xs.getD m 0 = y at *
      go_wp2_with fail
      go_quiet (fail)
      go_wp2
      go_roundw
      case rel => exact ⟨m + 1, by omega, by go_num, by first | exact hb | exact drawn hb _ | exact hb.drew⟩
      case measure => simp [intOf]; omega
    · obtain rfl : m = n := by omega
      go_wp2
      go_ret
      exact ⟨rfl, hb⟩

end Go.Proofs.Ythkklcmmbpffiaa

/- Layer 8: one worker alone; the document's example. -/
namespace Go.Proofs.Ythkklcmmbpffiaa
open Go.RowKit
set_option maxRecDepth 100000

/-- one worker, at block wb, that may note what it is told at g. -/
def SP1 (p c B n wb : Nat) (g : Option Nat) (ex : List Nat := []) : SP := ⟨p, c, B, n, 1, fun _ => wb, fun _ => g, ex⟩
def SSt1 (l : List Int) (k : Int) (hs gt : List Int) (bu ba wr : Bool) : SSt := ⟨l, k, fun _ => hs, fun _ => gt, fun _ => bu, fun _ => ba, fun _ => wr⟩

section
variable {p c B n wb : Nat} {g : Option Nat}
theorem SP1.good (h1 : B ≤ p) (h2 : B ≤ c) (h3 : B ≤ wb) (h4 : ∀ x, g = some x → B ≤ x ∧ x ≠ p ∧ x ≠ c ∧ wb ≠ x) (h5 : p ≠ c) (h6 : wb ≠ p ∧ wb ≠ c) (h7 : n ≤ 1000) : (SP1 p c B n wb g).Good :=
  ⟨⟨h1, h2, fun _ _ => h3, fun _ x _ hx => (h4 x hx).1⟩, fun i j hi hj _ => by have hi : i < 1 := hi; have hj : j < 1 := hj; omega, fun i j x hi hj _ _ => by have hi : i < 1 := hi; have hj : j < 1 := hj; omega,
   ⟨h5, fun _ _ => h6, fun _ x _ hx => ⟨(h4 x hx).2.1, (h4 x hx).2.2.1⟩, fun _ _ x _ _ hx => (h4 x hx).2.2.2⟩, h7⟩

theorem SI.one {W : World} {l : List Int} {k : Int} {hs gt : List Int} {bu ba wr : Bool} {v : Value} {r : Nat} (ha : Arena W p c l k) (hk : k + r ≤ 4611686018427387904) (ho : SOk n l) (hw : Lies W wb 34 #[v, (SP1 p c B n wb g).gotV 0, .bool bu, .bool ba, .bool wr]) (hr : W.ownsRow B 3 1 v hs.length (intVs hs))
    (hg : ∀ x, g = some x → ∃ u, Lies W x 31 #[u] ∧ W.ownsRow B 3 1 u gt.length (intVs gt) ∧ ∀ b, v.ownBlock = some b → u.ownBlock ≠ some b) (hb : ∀ i, i ∈ hs → 0 ≤ i ∧ i < n) (hz : hs.length + r ≤ 5000 ∧ gt.length + r ≤ 5000) :
    SI (SP1 p c B n wb g) r (SSt1 l k hs gt bu ba wr) W := by
  refine ⟨ha, hk, ho, fun j _ => ⟨v, hw, hr⟩, fun j x _ hx => ?_, fun j _ => hb, fun j _ => hz, fun a b h1 h2 hab q o m d o' m' d' e1 e2 => ?_, fun b hb => by cases hb⟩
  · obtain ⟨u, k1, k2, _⟩ := hg x hx
    exact ⟨u, k1, k2⟩
  · have cw : W.cell? ⟨wb, 0, none⟩ = some v := hw.cell 0
    have key : ∀ x, g = some x → (W.cell? ⟨wb, 0, none⟩ = some (.slice (some ⟨q, o, none⟩) m d) ∨ W.cell? ⟨wb, 0, none⟩ = some (.slice (some ⟨q, o', none⟩) m' d')) → ¬ (W.cell? ⟨x, 0, none⟩ = some (.slice (some ⟨q, o, none⟩) m d) ∨ W.cell? ⟨x, 0, none⟩ = some (.slice (some ⟨q, o', none⟩) m' d')) := by
      intro x hx h3 h4
      obtain ⟨u, k1, _, k3⟩ := hg x hx
      have cu : W.cell? ⟨x, 0, none⟩ = some u := k1.cell 0
      rw [cw] at h3
      rw [cu] at h4
      have e3 : v.ownBlock = some q := by rcases h3 with h3 | h3 <;> (injection h3 with h3; rw [h3]; rfl)
      have e4 : u.ownBlock = some q := by rcases h4 with h4 | h4 <;> (injection h4 with h4; rw [h4]; rfl)
      exact k3 q e3 e4
    rcases SP.ws_mem.1 h1 with ⟨j, _, rfl⟩ | ⟨j, x, _, hx, rfl⟩ <;> rcases SP.ws_mem.1 h2 with ⟨j', _, rfl⟩ | ⟨j', x', _, hx', rfl⟩
    · exact hab rfl
    · exact key x' hx' (.inl e1) (.inr e2)
    · exact key x hx (.inr e2) (.inl e1)
    · have hx : g = some x := hx
      have hx' : g = some x' := hx'
      rw [hx] at hx'
      injection hx' with hx'
      subst hx'
      exact hab rfl
end

/-- the same, from the front. -/
def Gm.go {St Pr : Type} (M : Gm St Pr) : Nat → Pr × St → Pr × St
  | 0, x => x
  | n + 1, x => match M.ended x.1 with
    | true => x
    | false => M.go n (M.step x.1 x.2)
section
variable {St Pr : Type} {M : Gm St Pr}
theorem runN_front {q : Pr} {s : St} {d : Nat} (h : M.ended q = false) : ∀ n, (M.runN q s d (n + 1)) = M.runN (M.step q s).1 (M.step q s).2 (d + 1) n
  | 0 => by simp [Gm.runN, Gm.sQ, Gm.sS, Gm.sD, h]
  | n + 1 => by
    have ih := runN_front (s := s) (d := d) h n
    show (M.sQ (M.runN q s d (n + 1)).1 _, M.sS (M.runN q s d (n + 1)).1 _, M.sD (M.runN q s d (n + 1)).1 _) = _
    rw [ih]
    rfl
theorem runN_go : ∀ (n : Nat) (q : Pr) (s : St) (d : Nat), (M.runN q s d n).1 = (M.go n (q, s)).1 ∧ (M.runN q s d n).2.1 = (M.go n (q, s)).2
  | 0, _, _, _ => ⟨rfl, rfl⟩
  | n + 1, q, s, d => by
    cases h : M.ended q with
    | true =>
      have e := runN_end (M := M) (q := q) (s := s) (d := d) (j := 0) h (n + 1)
      rw [Nat.zero_add] at e
      rw [e]
      simp [Gm.go, h, Gm.runN]
    | false =>
      rw [runN_front h]
      have ih := runN_go n (M.step q s).1 (M.step q s).2 (d + 1)
      simp only [Gm.go, h]
      exact ih
end

section
variable {P : SP}
theorem W_start (j : Nat) : ∀ (l : List Bool) (s : SSt), (SM P).W (startS j l s).1 (startS j l s).2
  | [], _ => trivial
  | true :: _, _ => trivial
  | false :: l, s => by
    show (SM P).W (match (s.hs j).getLast? with | none => startS j l s | some i => (⟨j, .pushR i, l⟩, s)).1 (match (s.hs j).getLast? with | none => startS j l s | some i => (⟨j, .pushR i, l⟩, s)).2
    cases h : (s.hs j).getLast? with
    | none => exact W_start j l s
    | some i =>
      show s.hs j ≠ []
      intro e
      rw [e] at h
      cases h
theorem W_step {q : SPr} {s : SSt} (h : (SM P).W q s) : (SM P).W ((SM P).step q s).1 ((SM P).step q s).2 := by
  obtain ⟨j, m, l⟩ := q
  show (SM P).W (skStep P ⟨j, m, l⟩ s).1 (skStep P ⟨j, m, l⟩ s).2
  cases m with
  | done => exact h
  | popR =>
    unfold skStep
    dsimp only
    split
    · exact W_start _ _ _
    · trivial
  | popN o => trivial
  | popT o y =>
    unfold skStep
    dsimp only
    split
    · exact W_start _ _ _
    · trivial
  | pushR i => exact h
  | pushS i o => exact h
  | pushT i o =>
    unfold skStep
    dsimp only
    split
    · exact W_start _ _ _
    · exact h
theorem W_run {q : SPr} {s : SSt} {d : Nat} (h : (SM P).W q s) : ∀ j, (SM P).W ((SM P).runN q s d j).1 ((SM P).runN q s d j).2.1
  | 0 => h
  | j + 1 => by
    have ih := W_run (d := d) h j
    show (SM P).W ((SM P).sQ _ _) ((SM P).sS _ _)
    unfold Gm.sQ Gm.sS
    split
    · exact ih
    · exact W_step ih
end

theorem go_speaks8 (p c B wb g : Nat) : ((SM (SP1 p c B 3 wb (some g))).go 13 (startS 0 [false, false, true, true, true] (SSt1 [0, 0, 0, 0] 0 [2, 1] [] false false false))).1.m = Mic.done ∧ ((SM (SP1 p c B 3 wb (some g))).go 13 (startS 0 [false, false, true, true, true] (SSt1 [0, 0, 0, 0] 0 [2, 1] [] false false false))).2.gt 0 = [2, 1, -1] := by
  exact ⟨by kernel_rfl, by kernel_rfl⟩

end Go.Proofs.Ythkklcmmbpffiaa

/- Layer 8: the document's example. -/
namespace Go.Proofs.Ythkklcmmbpffiaa
open Go.RowKit
set_option maxRecDepth 100000

section
variable {P : SP} {r : Nat} {s : SSt} {W W' : World}
theorem SI.below (hG : P.Good) (h : SI P r s W) {L : List Nat} (hL : ∀ b, b ∈ L → b ∈ P.L ∨ P.B ≤ b) (f : Fr L P.ws W W') : Below P.B W W' :=
  f.below (fun b hb => by
    rcases hL b hb with h1 | h1
    · exact sm_low P hG b h1
    · exact h1) (fun b hb => (h.rw hb).1) ((sm_ok P hG).okw _ _ _ h).base
theorem getA_zero (m : Nat) (i : Int) : getA (List.replicate m 0) i = 0 := by
  rcases hasA_cases (List.replicate m 0) i with h | ⟨k, rfl, h⟩
  · exact getA_out h
  · rw [getA_nat h]
    exact List.getElem_replicate _
theorem sok_zero (n : Nat) : SOk n (List.replicate (n + 1) 0) :=
  ⟨by simp, by rw [getA_zero]; exact ⟨by unfold N64; omega, by unfold hIx; omega⟩, fun i _ => by rw [getA_zero]; omega⟩
/-- bools that were just laid. -/
theorem BL.new {W : World} {g n : Nat} {bs : List Bool} {cs : Array Value} (h : Lies W g 4 cs) (hn : bs.length = n) (hc : ∀ i, i < n → cs[i]? = some (.bool (bs.getD i false))) (hm : n ≤ 100000) (h1 : g ∉ P.L ++ P.ex) (h2 : ¬ Rw P.ws W g) : BL P W (some ⟨g, 0, none⟩) bs := by
  subst hn
  refine ⟨hm, fun _ => ⟨_, rfl, h.lt, h1, h2, fun q => q.ne h (by decide), fun i hi => ?_⟩⟩
  rw [Addr.add_mid, Nat.zero_add, h.cell i]
  exact hc i hi
end

set_option maxHeartbeats 1000000 in
theorem speaks8_any (w : World) : Calls Try.prog 12 #[] w fun e w' => e = .returned (.bool true) ∧ Below w.heap.size w w' := by
  have hf := fresh8_any 3 (by omega) w
  have y2 := fun (a : Addr) (f : FuncId) (c : Array Value) (w : World) => run_store Try.prog w a (.func (.func f) #[] c) .plain rfl
  go_enter Try.func12, Try.ntmps12
  go_wp2_with fail
  refine (show Calls Try.prog 13 #[.int .i64 3] _ _ from hf).mono ?_
  rintro e w1 ⟨p, c, rfl, ha, hb, hc, hp⟩
  clear hf
  go_wp2_with fail
  have hz1 := ha.head.lt
  have hb1 := hb.size
  generalize hh : w1.heap.size = h1 at *
  obtain ⟨W6, hW6⟩ : ∃ W6, (((((w1.alloc (.cells #[.pointer (some ⟨p, 0, none⟩), .int .i64 0, .func (.func 38) #[] #[]] 27)).alloc (.cells #[.slice none 0 0] 31)).alloc (.cells #[.bool false, .bool false, .bool true, .bool true, .bool true] 4)).alloc (.cells #[.int .i64 2, .int .i64 1] 3)).alloc (.cells #[.slice (some ⟨h1 + 1 + 1 + 1, 0, none⟩) 2 2, .pointer (some ⟨h1 + 1, 0, none⟩), .bool false, .bool false, .bool false] 34)) = W6 := ⟨_, rfl⟩
  have k6 : Turns [] w1 W6 := by rw [← hW6]; exact (((((Turns.refl _ _).alloc _).alloc _).alloc _).alloc _).alloc _
  have l1 : Lies W6 (h1 + 1) 31 #[.slice none 0 0] := by rw [← hW6]; exact (((Lies.new_of _ _ (by simp [hh])).alloc _).alloc _).alloc _
  have l2 : Lies W6 (h1 + 1 + 1) 4 #[.bool false, .bool false, .bool true, .bool true, .bool true] := by rw [← hW6]; exact ((Lies.new_of _ _ (by simp [hh])).alloc _).alloc _
  have l3 : Lies W6 (h1 + 1 + 1 + 1) 3 #[.int .i64 2, .int .i64 1] := by rw [← hW6]; exact (Lies.new_of _ _ (by simp [hh])).alloc _
  have l4 : Lies W6 (h1 + 1 + 1 + 1 + 1) 34 #[.slice (some ⟨h1 + 1 + 1 + 1, 0, none⟩) 2 2, .pointer (some ⟨h1 + 1, 0, none⟩), .bool false, .bool false, .bool false] := by rw [← hW6]; exact Lies.new_of _ _ (by simp [hh])
  have ha6 := ha.turn k6 (by simp) (by simp)
  obtain ⟨P, hP⟩ : ∃ P, SP1 p c w.heap.size 3 (h1 + 1 + 1 + 1 + 1) (some (h1 + 1)) = P := ⟨_, rfl⟩
  have hG : P.Good := by
    rw [← hP]
    exact SP1.good (by omega) hc (by omega) (fun x hx => by injection hx with hx; subst hx; omega) (by omega) (by omega) (by omega)
  obtain ⟨s0, hs0⟩ : ∃ s0, SSt1 [0, 0, 0, 0] 0 [2, 1] [] false false false = s0 := ⟨_, rfl⟩
  have hI : SI P 60 s0 W6 := by
    rw [← hP, ← hs0]
    refine SI.one ha6 (by omega) (sok_zero 3) l4 ?_ (fun x hx => ?_) (by decide) (by simp)
    · exact ⟨rfl, .inr ⟨_, 2, _, rfl, by omega, l3, Nat.le_refl 2, by simp only [maxLen]; omega, rfl, rfl⟩⟩
    · injection hx with hx
      subst hx
      exact ⟨_, l1, World.ownsRow_nil _ _ _ _, fun b _ h => by cases h⟩
  have okw := (sm_ok P hG).okw _ _ _ hI
  have notin : ∀ x, x = h1 + 1 + 1 → x ∉ P.L ++ P.ex := fun x hx hm => by
    rw [← hP] at hm
    have hm := (List.mem_append.1 hm).resolve_right (by simp [SP1])
    rcases SP.L_mem.1 hm with h | h | ⟨j, _, h⟩ | ⟨j, _, h⟩
    · have h : x = p := h
      omega
    · have h : x = c := h
      omega
    · have h : h1 + 1 + 1 + 1 + 1 = x := h
      omega
    · injection h with h
      omega
  have hBL : BL P W6 (some ⟨h1 + 1 + 1, 0, none⟩) [false, false, true, true, true] := BL.new l2 (n := 5) rfl (fun i hi => by rcases (by omega : i = 0 ∨ i = 1 ∨ i = 2 ∨ i = 3 ∨ i = 4) with rfl | rfl | rfl | rfl | rfl <;> rfl) (by omega) (notin _ rfl) (fun h => by
    obtain ⟨_, cur, h2⟩ := hI.rw h
    exact h2.unlike l2 (by decide) rfl)
  have hcode := code_g hG 60 [false, false, true, true, true] 0 (some ⟨h1 + 1 + 1, 0, none⟩) 5 W6 60 s0 (by rw [← hP]; exact Nat.one_pos) hBL (by simp) hI
  have hA : #[stV P, Value.slice (some ⟨h1 + 1 + 1, 0, none⟩) [false, false, true, true, true].length 5, ptr (P.wb 0)] = #[chV p 0 38 #[], Value.slice (some ⟨h1 + 1 + 1, 0, none⟩) 5 5, ptr (h1 + 1 + 1 + 1 + 1)] := by rw [← hP]; rfl
  unfold Gm.Then at hcode
  rw [hA] at hcode
  obtain ⟨R, hR⟩ : ∃ R, startS 0 [false, false, true, true, true] s0 = R := ⟨_, rfl⟩
  rw [hR] at hcode
  have hg := go_speaks8 p c w.heap.size (h1 + 1 + 1 + 1 + 1) (h1 + 1)
  rw [hP, hs0, hR] at hg
  have hWR : (SM P).W R.1 R.2 := by rw [← hR]; exact W_start _ _ _
  have hend : (SM P).ended ((SM P).runN R.1 R.2 0 60).1 = true ∧ ((SM P).runN R.1 R.2 0 60).2.1.gt 0 = [2, 1, -1] := by
    obtain ⟨e1, e2⟩ := runN_go (M := SM P) 13 R.1 R.2 0
    have h13 : (SM P).ended ((SM P).runN R.1 R.2 0 13).1 = true := by
      rw [e1]
      show (match ((SM P).go 13 R).1.m with | .done => true | _ => false) = true
      rw [hg.1]
    have e := runN_end h13 47
    rw [show 13 + 47 = 60 by omega] at e
    rw [e, e2]
    exact ⟨e1 ▸ h13, hg.2⟩
  have gp : P.gp 0 = some (h1 + 1) ∧ P.nw = 1 ∧ P.B = w.heap.size := by rw [← hP]; exact ⟨rfl, rfl, rfl⟩
  have b6 : Below w.heap.size w W6 := hb.trans (k6.below (by simp) (by omega))
  have b7 := fun W' (f : Fr P.L P.ws W6 W') => hI.below hG (fun b hb => .inl hb) f
  rw [gp.2.2] at b7
  have HEND := Lib.hid hend
  have HGP := Lib.hid gp
  rw [hW6]
  clear hA hR hg hend gp hP hs0 hI hBL notin l1 l2 l3 l4 ha6 k6 hb ha okw hW6 hh hz1 hb1
  refine hcode.mono ?_
  rintro e w7 ⟨v, rfl, ⟨hi7, hc7⟩, f7⟩
  have hn := newtask_any v hc7.is w7
  go_wp2_with fail
  refine hn.mono ?_
  rintro e w8 ⟨rfl, hw8⟩
  have hM := sm_ok P hG
  have tk := Gm.Task.made hM (hM.okw _ _ _ hi7) hc7
  have k8 : Turns [] w7 (w7.alloc (.cells #[v, .int .i64 0] 89)) := (Turns.refl _ _).alloc _
  have hi8 := hM.made k8 hi7
  have b8 : Below w.heap.size w7 (w7.alloc (.cells #[v, .int .i64 0] 89)) := k8.below (by simp) (by have := (b7 _ f7).size; have := b6.size; omega)
  rw [hw8] at tk hi8 b8
  have hfin := finish_g hM 60 (Nat.le_refl _) tk hi8 (fun j _ _ => W_run hWR j) (by omega)
  rw [HEND.out.1] at hfin
  have b9 := fun W' (f : Fr (w7.heap.size :: P.L) P.ws w8 W') => SI.below hG hi8 (fun b hb => by
    rcases List.mem_cons.1 hb with h | h
    · right
      rw [HGP.out.2.2, h]
      have := (b7 _ f7).size
      have := b6.size
      omega
    · exact .inl h) f
  rw [HGP.out.2.2] at b9
  have b8 := (b6.trans (b7 _ f7)).trans b8
  clear hw8 tk hi8 hi7 hc7 hn hcode b6 b7 k8 f7
  go_wp2_with fail
  refine (show Calls Try.prog 18 #[ptr w7.heap.size, .int .i64 60] _ _ from hfin).mono ?_
  rintro e w9 ⟨rfl, _, hi9, f9, _⟩
  obtain ⟨x, hx, hox⟩ := SI.gt hi9 0 (h1 + 1) (by rw [HGP.out.2.1]; omega) HGP.out.1
  rw [HEND.out.2] at hox
  have b9 := b8.trans (b9 _ f9)
  have hrx : IRow w9 P.B x [2, 1, -1] := ⟨hox, by intro y hy; simp at hy; rcases hy with rfl | rfl | rfl <;> decide⟩
  obtain ⟨A, cx, rfl, hrw⟩ := hrx.row
  have c9 : w9.cell? ⟨h1 + 1, 0, none⟩ = some (.slice A 3 cx) := hx.cell 0
  have hlit := IRow.lit w9 (B := w.heap.size) [2, 1, -1] #[.int .i64 2, .int .i64 1, .int .i64 (-1)] rfl (by have := b9.size; omega) hrx.ints (by simp)
  obtain ⟨A', c', e', hrw'⟩ := hlit.row
  have bz : Below w9.heap.size w9 (w9.alloc (.cells #[.int .i64 2, .int .i64 1, .int .i64 (-1)] 3)) := (Below.refl _ _).alloc (Nat.le_refl _) _
  have hs := rsame_any A A' 3 cx c' [2, 1, -1] _ (hrw.keep (Nat.le_refl _) bz) hrw'
  injection e' with ea eb ec
  subst ea
  subst ec
  clear eb
  have b10 := b9.trans (bz.mono (by have := b9.size; omega))
  have hz := b10.size
  clear hfin hi9 f9 hx hox hrx hlit hrw hrw' HEND b8
  go_wp2_with fail
  refine hs.mono ?_
  rintro e w10 ⟨rfl, hz10⟩
  go_wp2
  go_ret
  exact ⟨rfl, b10.trans (hz10.mono hz)⟩

end Go.Proofs.Ythkklcmmbpffiaa

/- The inbox's numbers; its workers' steps. -/
namespace Go.Proofs.Ythkklcmmbpffiaa
open Go.RowKit
set_option maxRecDepth 100000

/-- the numbers of a box for n tickets: its head, the free ones' head, links, marks. -/
structure BOk (n : Nat) (l : List Int) : Prop where
  len : l.length = 2 + 2 * n
  h0 : N64 (getA l 0) ∧ hIx (getA l 0) < n
  h1 : N64 (getA l 1) ∧ hIx (getA l 1) < n
  link : ∀ i : Nat, i < n → getA l ((i : Int) + 2) ≤ n
section
variable {n : Nat} {l : List Int}
theorem BOk.turn (h : BOk n l) {c o i : Int} (hc : c = 0 ∨ c = 1) (hi : Ix0 i) (hn : i < n) : BOk n (casA l c o (newH o i)) := by
  refine ⟨by rw [casA_len]; exact h.len, ?_, ?_, fun j hj => ?_⟩
  · rw [getA_casA]
    split
    · exact ⟨newH_in hi, by rw [hIx_newH hi]; exact hn⟩
    · exact h.h0
  · rw [getA_casA]
    split
    · exact ⟨newH_in hi, by rw [hIx_newH hi]; exact hn⟩
    · exact h.h1
  · rw [getA_casA, if_neg (by omega)]
    exact h.link j hj
theorem BOk.lay (h : BOk n l) {o i : Int} (ho : hIx o < n) (hi : 0 ≤ i) : BOk n (setA l (i + 2) (hIx o + 1)) := by
  refine ⟨by rw [setA_length]; exact h.len, ?_, ?_, fun j hj => ?_⟩
  · rw [getA_setA, if_neg (by omega)]
    exact h.h0
  · rw [getA_setA, if_neg (by omega)]
    exact h.h1
  · rw [getA_setA]
    split
    · omega
    · exact h.link j hj
/-- a ticket dies: the law writes its mark. -/
theorem BOk.dies (h : BOk n l) {t : Int} (ht : 0 ≤ t) (v : Int) : BOk n (setA l (t + (2 + n)) v) := by
  refine ⟨by rw [setA_length]; exact h.len, ?_, ?_, fun j hj => ?_⟩
  · rw [getA_setA, if_neg (by omega)]
    exact h.h0
  · rw [getA_setA, if_neg (by omega)]
    exact h.h1
  · rw [getA_setA, if_neg (by omega)]
    exact h.link j hj
theorem bok_zero (n : Nat) : BOk n (List.replicate (2 + 2 * n) 0) :=
  ⟨by simp, by rw [getA_zero]; exact ⟨by unfold N64; omega, by unfold hIx; omega⟩, by rw [getA_zero]; exact ⟨by unfold N64; omega, by unfold hIx; omega⟩, fun i _ => by rw [getA_zero]; omega⟩
end

/-- an arena's numbers and accesses; what the owner got, and where drains ended. -/
structure BSt where
  l : List Int
  k : Int
  got : List Int
  ends : List Int

/-- what is to be done next: of a Put (R: the head; D: a first one's mark; N, T: it is taken; A, B, C: and freed; S, U: the ticket is laid), of a drain (R, T), of Each (N: the link; I: idle). -/
inductive Bic
  | done
  | pR
  | pD (o : Int)
  | pN (o : Int)
  | pT (o y : Int)
  | pA (i : Int)
  | pB (i o : Int)
  | pC (i o : Int)
  | pS (o : Int)
  | pU (o : Int)
  | dR
  | dT (o : Int)
  | eN (i : Int)
  | eI (x : Int)

/-- a worker's program: what is next; the tickets that are to be put, the one under way ahead; how many drains behind this one. -/
structure BPr where
  m : Bic
  l : List Int
  n : Nat

def startP : List Int → BPr
  | [] => ⟨.done, [], 0⟩
  | t :: l => ⟨.pR, t :: l, 0⟩
def startD : Nat → BPr
  | 0 => ⟨.done, [], 0⟩
  | n + 1 => ⟨.dR, [], n⟩
/-- Each, from a ticket on; a drain ends behind the last one. -/
def eachD (n : Nat) (x : Int) (s : BSt) : BPr × BSt := if x < 0 then (startD n, { s with ends := s.ends ++ [(s.got.length : Int)] }) else (⟨.eN x, [], n⟩, s)

def bStep (n : Nat) (q : BPr) (s : BSt) : BPr × BSt :=
  match q.m with
  | .done => (q, s)
  | .pR => (if hIx (getA s.l 0) = -1 then ⟨.pS (getA s.l 0), q.l, q.n⟩ else ⟨.pD (getA s.l 0), q.l, q.n⟩, { s with k := moreA s.l 0 s.k })
  | .pD o => (if getA s.l (hIx o + (2 + n)) = 1 then ⟨.pN o, q.l, q.n⟩ else ⟨.pS o, q.l, q.n⟩, { s with k := moreA s.l (hIx o + (2 + n)) s.k })
  | .pN o => (⟨.pT o (nxOf (getA s.l (hIx o + 2))), q.l, q.n⟩, { s with k := moreA s.l (hIx o + 2) s.k })
  | .pT o y => (if casB s.l 0 o = true then ⟨.pA (hIx o), q.l, q.n⟩ else ⟨.pR, q.l, q.n⟩, { s with l := casA s.l 0 o (newH o y), k := moreA s.l 0 s.k })
  | .pA i => (⟨.pB i (getA s.l 1), q.l, q.n⟩, { s with k := moreA s.l 1 s.k })
  | .pB i o => (⟨.pC i o, q.l, q.n⟩, { s with l := setA s.l (i + 2) (hIx o + 1), k := moreA s.l (i + 2) s.k })
  | .pC i o => if casB s.l 1 o = true then (⟨.pR, q.l, q.n⟩, { s with l := casA s.l 1 o (newH o i), k := moreA s.l 1 s.k }) else (⟨.pA i, q.l, q.n⟩, { s with l := casA s.l 1 o (newH o i), k := moreA s.l 1 s.k })
  | .pS o => (⟨.pU o, q.l, q.n⟩, { s with l := setA s.l (q.l.headD 0 + 2) (hIx o + 1), k := moreA s.l (q.l.headD 0 + 2) s.k })
  | .pU o => if casB s.l 0 o = true then (startP q.l.tail, { s with l := casA s.l 0 o (newH o (q.l.headD 0)), k := moreA s.l 0 s.k }) else (⟨.pR, q.l, q.n⟩, { s with l := casA s.l 0 o (newH o (q.l.headD 0)), k := moreA s.l 0 s.k })
  | .dR => if hIx (getA s.l 0) = -1 then eachD q.n (-1) { s with k := moreA s.l 0 s.k } else (⟨.dT (getA s.l 0), q.l, q.n⟩, { s with k := moreA s.l 0 s.k })
  | .dT o => if casB s.l 0 o = true then eachD q.n (hIx o) { s with l := casA s.l 0 o (newH o (-1)), k := moreA s.l 0 s.k } else (⟨.dR, q.l, q.n⟩, { s with l := casA s.l 0 o (newH o (-1)), k := moreA s.l 0 s.k })
  | .eN i => (⟨.eI (nxOf (getA s.l (i + 2))), q.l, q.n⟩, { s with k := moreA s.l (i + 2) s.k, got := s.got ++ [i] })
  | .eI x => eachD q.n x s

def bEnded (q : BPr) : Bool := match q.m with
  | .done => true
  | _ => false

theorem link9_any (i : Int) (hi : Ix i) (w : World) : Calls Try.prog 46 #[.int .i64 i] w fun e w' => e = .returned (.int .i64 (i + 2)) ∧ w' = w := by
  unfold Ix at hi
  go_enter Try.func46, Try.ntmps46
  go_wp2
  go_ret
  exact ⟨ret_int (by go_num), rfl⟩

end Go.Proofs.Ythkklcmmbpffiaa

/- The inbox: its workers, however they are picked: no ticket is lost, none is in two places. -/
namespace Go.Proofs.Ythkklcmmbpffiaa
open Go.RowKit
set_option maxRecDepth 100000

/-- all that is in hands. -/
def allB (N : Nat) (hs : Nat → List Int) : List Int := (List.range N).flatMap hs
theorem allB_succ (N : Nat) (hs : Nat → List Int) : allB (N + 1) hs = allB N hs ++ hs N := by
  unfold allB
  rw [List.range_succ, List.flatMap_append]
  simp
theorem allB_congr {f g : Nat → List Int} : ∀ (N : Nat), (∀ i, i < N → f i = g i) → allB N f = allB N g
  | 0, _ => rfl
  | N + 1, h => by rw [allB_succ, allB_succ, allB_congr N (fun i hi => h i (by omega)), h N (by omega)]
theorem allB_count {hs : Nat → List Int} {j : Nat} {c : List Int} (a : Int) : ∀ (N : Nat), j < N → (allB N (updF hs j c)).count a + (hs j).count a = (allB N hs).count a + c.count a
  | 0, hj => by omega
  | N + 1, hj => by
    rw [allB_succ, allB_succ, List.count_append, List.count_append]
    by_cases h : j = N
    · subst h
      rw [allB_congr (f := updF hs j c) (g := hs) j (fun i hi => updF_ne _ _ (by omega)), updF_same]
      omega
    · rw [updF_ne _ _ (by omega)]
      have := allB_count (hs := hs) (j := j) (c := c) a N (by omega)
      omega
theorem allB_ge {hs : Nat → List Int} {j : Nat} (a : Int) : ∀ (N : Nat), j < N → (hs j).count a ≤ (allB N hs).count a
  | 0, hj => by omega
  | N + 1, hj => by
    rw [allB_succ, List.count_append]
    by_cases h : j = N
    · subst h; omega
    · have := allB_ge (hs := hs) a N (show j < N by omega)
      omega
theorem allB_two {hs : Nat → List Int} {i j : Nat} (a : Int) (hij : i ≠ j) : ∀ (N : Nat), i < N → j < N → (hs i).count a + (hs j).count a ≤ (allB N hs).count a
  | 0, hi, _ => by omega
  | N + 1, hi, hj => by
    rw [allB_succ, List.count_append]
    rcases (by omega : i < N ∨ i = N) with h1 | h1 <;> rcases (by omega : j < N ∨ j = N) with h2 | h2
    · have := allB_two (hs := hs) a hij N h1 h2; omega
    · subst h2; have := allB_ge (hs := hs) a j h1; omega
    · subst h1; have := allB_ge (hs := hs) a i h2; omega
    · omega
theorem count_mem {l : List Int} {a : Int} : a ∈ l ↔ 1 ≤ l.count a := List.count_pos_iff.symm

theorem count_len : ∀ (l : List Int) {m : List Int}, (∀ a, l.count a ≤ m.count a) → l.length ≤ m.length
  | [], _, _ => Nat.zero_le _
  | x :: l, m, h => by
    have hx : x ∈ m := count_mem.2 (by have := h x; rw [List.count_cons] at this; simp at this; omega)
    have h2 := count_len l (m := m.erase x) fun a => by
      have h3 := h a
      rw [List.count_cons] at h3
      rw [List.count_erase]
      split <;> simp_all <;> omega
    have h4 := List.length_erase_of_mem hx
    have h5 := List.length_pos_of_mem hx
    rw [List.length_cons]
    omega

/-- from x on these tickets follow. -/
def ChB (l : List Int) : Int → List Int → Prop
  | x, [] => x = -1
  | x, i :: is => x = i ∧ 0 ≤ i ∧ ChB l (nxOf (getA l (i + 2))) is
theorem ChB.keep {l l' : List Int} : ∀ {ts : List Int} {x : Int}, ChB l x ts → (∀ i, i ∈ ts → getA l' (i + 2) = getA l (i + 2)) → ChB l' x ts
  | [], _, h, _ => h
  | i :: is, _, h, k => ⟨h.1, h.2.1, by
    rw [k i (by simp)]
    exact ChB.keep h.2.2 fun y hy => k y (by simp [hy])⟩
theorem ChB.told {l : List Int} : ∀ {ts : List Int} {x : Int} {n : Nat}, ChB l x ts → (∀ i, i ∈ ts → getA l (i + 2) ≤ 4294967295) → ts.length ≤ n → chL l (fun i => i + 2) n x = ts
  | [], x, n, h, _, _ => by
    have h : x = -1 := h
    rw [h, chL_stop]
  | i :: is, x, n, h, hb, hn => by
    obtain ⟨rfl, h1, h2⟩ := h
    obtain ⟨m, rfl⟩ : ∃ m, n = m + 1 := ⟨n - 1, by simp at hn; omega⟩
    show (if x = -1 then [] else x :: chL l (fun i => i + 2) m (lkd (getA l (x + 2)))) = _
    rw [if_neg (by omega), lkd_nx (hb x (by simp)), ChB.told h2 (fun y hy => hb y (by simp [hy])) (by simp at hn; omega)]
theorem ChB.head {l : List Int} {x : Int} {ts : List Int} (h : ChB l x ts) (hx : x ≠ -1) : ∃ ts', ts = x :: ts' ∧ 0 ≤ x ∧ ChB l (nxOf (getA l (x + 2))) ts' := by
  cases ts with
  | nil => exact absurd h hx
  | cons i ts' => obtain ⟨rfl, h1, h2⟩ := h; exact ⟨ts', rfl, h1, h2⟩
theorem ChB.none {l : List Int} {x : Int} {ts : List Int} (h : ChB l x ts) (hx : x < 0) : ts = [] := by
  cases ts with
  | nil => rfl
  | cons i ts' => obtain ⟨rfl, h1, h2⟩ := h; omega

/-- a head that was read: it is the head still, or the head was written since. -/
def oOkB (n : Nat) (H o : Int) : Prop := N64 o ∧ hCt o ≤ hCt H ∧ (hCt o = hCt H → o = H) ∧ hIx o < n
theorem oOkB.of {n : Nat} {H H' o : Int} (h : oOkB n H o) (k : H' = H ∨ hCt H' = hCt H + 1) : oOkB n H' o ∧ (o = H' → H' = H) := by
  rcases k with k | k
  · rw [k]; exact ⟨h, fun _ => rfl⟩
  · have h2 := h.2.1
    refine ⟨⟨h.1, by omega, fun e => by omega, h.2.2.2⟩, fun e => ?_⟩
    rw [e] at h2
    omega
/-- a worker, and what is in its hand. -/
def WkB (n : Nat) (l : List Int) (c : List Int) (q : BPr) : Prop :=
  match q.m with
  | .done => c = [] ∧ q.l = []
  | .pR => c = q.l ∧ q.l ≠ []
  | .pD o => c = q.l ∧ q.l ≠ [] ∧ oOkB n (getA l 0) o ∧ hIx o ≠ -1
  | .pN o => c = q.l ∧ q.l ≠ [] ∧ oOkB n (getA l 0) o ∧ hIx o ≠ -1 ∧ getA l (hIx o + (2 + n)) = 1
  | .pT o y => c = q.l ∧ q.l ≠ [] ∧ oOkB n (getA l 0) o ∧ hIx o ≠ -1 ∧ getA l (hIx o + (2 + n)) = 1 ∧ (o = getA l 0 → y = nxOf (getA l (hIx o + 2)))
  | .pA i => c = i :: q.l ∧ q.l ≠ [] ∧ getA l (i + (2 + n)) = 1
  | .pB i o => c = i :: q.l ∧ q.l ≠ [] ∧ getA l (i + (2 + n)) = 1 ∧ oOkB n (getA l 1) o
  | .pC i o => c = i :: q.l ∧ q.l ≠ [] ∧ getA l (i + (2 + n)) = 1 ∧ oOkB n (getA l 1) o ∧ getA l (i + 2) = hIx o + 1
  | .pS o => c = q.l ∧ q.l ≠ [] ∧ oOkB n (getA l 0) o
  | .pU o => c = q.l ∧ q.l ≠ [] ∧ oOkB n (getA l 0) o ∧ getA l (q.l.headD 0 + 2) = hIx o + 1
  | .dR => c = [] ∧ q.l = []
  | .dT o => c = [] ∧ q.l = [] ∧ oOkB n (getA l 0) o ∧ hIx o ≠ -1
  | .eN i => c ≠ [] ∧ q.l = [] ∧ ChB l i c
  | .eI x => ChB l x c ∧ q.l = []

theorem WkB.of {n : Nat} {l l' c : List Int} {q : BPr} (h : WkB n l c q) (h0 : getA l' 0 = getA l 0 ∨ hCt (getA l' 0) = hCt (getA l 0) + 1) (h1 : getA l' 1 = getA l 1 ∨ hCt (getA l' 1) = hCt (getA l 1) + 1)
    (hl : ∀ i, i ∈ c → getA l' (i + 2) = getA l (i + 2)) (hH : hIx (getA l 0) ≠ -1 → getA l' (hIx (getA l 0) + 2) = getA l (hIx (getA l 0) + 2)) (hm : ∀ i : Int, 0 ≤ i → i < n → getA l (i + (2 + n)) = 1 → getA l' (i + (2 + n)) = 1) (hc : ∀ x, x ∈ c → 0 ≤ x ∧ x < n) : WkB n l' c q := by
  obtain ⟨m, ql, qn⟩ := q
  have hz : ∀ {o : Int}, oOkB n (getA l 0) o → hIx o ≠ -1 → 0 ≤ hIx o ∧ hIx o < n := fun {o} ho hn => by
    have := hIx_ix hn
    unfold Ix at this
    exact ⟨this.1, ho.2.2.2⟩
  cases m with
  | done => exact h
  | pR => exact h
  | pD o => exact ⟨h.1, h.2.1, (h.2.2.1.of h0).1, h.2.2.2⟩
  | pN o => exact ⟨h.1, h.2.1, (h.2.2.1.of h0).1, h.2.2.2.1, hm _ (hz h.2.2.1 h.2.2.2.1).1 (hz h.2.2.1 h.2.2.2.1).2 h.2.2.2.2⟩
  | pT o y =>
    refine ⟨h.1, h.2.1, (h.2.2.1.of h0).1, h.2.2.2.1, hm _ (hz h.2.2.1 h.2.2.2.1).1 (hz h.2.2.1 h.2.2.2.1).2 h.2.2.2.2.1, fun e => ?_⟩
    have e2 := (h.2.2.1.of h0).2 e
    have e3 : o = getA l 0 := e.trans e2
    have hz1 : hIx (getA l 0) ≠ -1 := by rw [← e3]; exact h.2.2.2.1
    rw [h.2.2.2.2.2 e3, e3, hH hz1]
  | pA i =>
    have hi : i ∈ c := by rw [h.1]; simp
    exact ⟨h.1, h.2.1, hm _ (hc i hi).1 (hc i hi).2 h.2.2⟩
  | pB i o =>
    have hi : i ∈ c := by rw [h.1]; simp
    exact ⟨h.1, h.2.1, hm _ (hc i hi).1 (hc i hi).2 h.2.2.1, (h.2.2.2.of h1).1⟩
  | pC i o =>
    have hi : i ∈ c := by rw [h.1]; simp
    exact ⟨h.1, h.2.1, hm _ (hc i hi).1 (hc i hi).2 h.2.2.1, (h.2.2.2.1.of h1).1, by rw [hl i hi]; exact h.2.2.2.2⟩
  | pS o => exact ⟨h.1, h.2.1, (h.2.2.of h0).1⟩
  | pU o =>
    have hi : ql.headD 0 ∈ c := by
      rw [h.1]
      have h2 : ql ≠ [] := h.2.1
      show ql.headD 0 ∈ ql
      cases ql with
      | nil => exact absurd rfl h2
      | cons t r => simp
    exact ⟨h.1, h.2.1, (h.2.2.1.of h0).1, by rw [hl _ hi]; exact h.2.2.2⟩
  | dR => exact h
  | dT o => exact ⟨h.1, h.2.1, (h.2.2.1.of h0).1, h.2.2.2⟩
  | eN i => exact ⟨h.1, h.2.1, h.2.2.keep hl⟩
  | eI x => exact ⟨h.1.keep hl, h.2⟩

/-- all workers, however they are picked. -/
structure Gb (n N T : Nat) (all : List Int) (q : Nat → BPr) (s : BSt) (hs : Nat → List Int) (bx fs : List Int) : Prop where
  ok : BOk n s.l
  cb : ChB s.l (hIx (getA s.l 0)) bx
  cf : ChB s.l (hIx (getA s.l 1)) fs
  cnt : ∀ a, bx.count a + fs.count a + s.got.count a + (allB N hs).count a = all.count a
  one : ∀ a, all.count a ≤ 1
  rng : ∀ a, a ∈ all → 0 ≤ a ∧ a < n
  h0 : hCt (getA s.l 0) ≤ T
  h1 : hCt (getA s.l 1) ≤ T
  wk : ∀ j, j < N → WkB n s.l (hs j) (q j)
  dead : ∀ x, x ∈ fs → getA s.l (x + (2 + n)) = 1
  fit : ∀ i, N64 (getA s.l i)

section
variable {n N T : Nat} {all : List Int} {q : Nat → BPr} {s : BSt} {hs : Nat → List Int} {bx fs : List Int}
theorem Gb.mem_bx (h : Gb n N T all q s hs bx fs) {x : Int} (hx : x ∈ bx) : 0 ≤ x ∧ x < n := h.rng x (by
  have h1 := count_mem.1 hx
  have h2 := h.cnt x
  exact count_mem.2 (by omega))
theorem Gb.mem_fs (h : Gb n N T all q s hs bx fs) {x : Int} (hx : x ∈ fs) : 0 ≤ x ∧ x < n := h.rng x (by
  have h1 := count_mem.1 hx
  have h2 := h.cnt x
  exact count_mem.2 (by omega))
theorem Gb.mem_hs (h : Gb n N T all q s hs bx fs) {x : Int} {j : Nat} (hj : j < N) (hx : x ∈ hs j) : 0 ≤ x ∧ x < n := h.rng x (by
  have h1 := count_mem.1 hx
  have h2 := h.cnt x
  have h3 := allB_ge (hs := hs) (j := j) x N hj
  exact count_mem.2 (by omega))
theorem Gb.bx_hs (h : Gb n N T all q s hs bx fs) {x : Int} {j : Nat} (hj : j < N) (h1 : x ∈ bx) (h2 : x ∈ hs j) : False := by
  have := count_mem.1 h1
  have := count_mem.1 h2
  have := allB_ge (hs := hs) (j := j) x N hj
  have := h.cnt x
  have := h.one x
  omega
theorem Gb.fs_hs (h : Gb n N T all q s hs bx fs) {x : Int} {j : Nat} (hj : j < N) (h1 : x ∈ fs) (h2 : x ∈ hs j) : False := by
  have := count_mem.1 h1
  have := count_mem.1 h2
  have := allB_ge (hs := hs) (j := j) x N hj
  have := h.cnt x
  have := h.one x
  omega
theorem Gb.hs_hs (h : Gb n N T all q s hs bx fs) {x : Int} {i j : Nat} (hi : i < N) (hj : j < N) (hij : i ≠ j) (h1 : x ∈ hs i) (h2 : x ∈ hs j) : False := by
  have := count_mem.1 h1
  have := count_mem.1 h2
  have := allB_two (hs := hs) x hij N hi hj
  have := h.cnt x
  have := h.one x
  omega
theorem Gb.len (h : Gb n N T all q s hs bx fs) (hn : all.length ≤ n) : bx.length ≤ n ∧ fs.length ≤ n := by
  exact ⟨Nat.le_trans (count_len bx fun a => by have := h.cnt a; omega) hn, Nat.le_trans (count_len fs fun a => by have := h.cnt a; omega) hn⟩

/-- a step of worker j, put together. -/
theorem Gb.next (h : Gb n N T all q s hs bx fs) {j : Nat} (hj : j < N) {q' : BPr} {s' : BSt} {c' bx' fs' : List Int}
    (ok : BOk n s'.l) (cb : ChB s'.l (hIx (getA s'.l 0)) bx') (cf : ChB s'.l (hIx (getA s'.l 1)) fs')
    (ct : ∀ a, bx'.count a + fs'.count a + s'.got.count a + c'.count a = bx.count a + fs.count a + s.got.count a + (hs j).count a)
    (e0 : getA s'.l 0 = getA s.l 0 ∨ hCt (getA s'.l 0) = hCt (getA s.l 0) + 1) (e1 : getA s'.l 1 = getA s.l 1 ∨ hCt (getA s'.l 1) = hCt (getA s.l 1) + 1)
    (hl : ∀ i : Int, i ∉ hs j → 0 ≤ i → i < n → getA s'.l (i + 2) = getA s.l (i + 2)) (hm : ∀ i : Int, 0 ≤ i → getA s'.l (i + (2 + n)) = getA s.l (i + (2 + n)))
    (hw : WkB n s'.l c' q') (dd : ∀ x, x ∈ fs' → getA s.l (x + (2 + n)) = 1) (fit : ∀ i, N64 (getA s'.l i)) : Gb n N (T + 1) all (updF q j q') s' (updF hs j c') bx' fs' := by
  have hcnt : ∀ a, bx'.count a + fs'.count a + s'.got.count a + (allB N (updF hs j c')).count a = all.count a := fun a => by
    have h1 := allB_count (hs := hs) (j := j) (c := c') a N hj
    have h2 := h.cnt a
    have h3 := ct a
    omega
  refine ⟨ok, cb, cf, hcnt, h.one, h.rng, ?_, ?_, fun i hi => ?_, fun x hx => ?_, fit⟩
  · have := h.h0
    rcases e0 with e | e
    · rw [e]; omega
    · omega
  · have := h.h1
    rcases e1 with e | e
    · rw [e]; omega
    · omega
  · by_cases e : i = j
    · subst e; rw [updF_same, updF_same]; exact hw
    · rw [updF_ne _ _ e, updF_ne _ _ e]
      refine (h.wk i hi).of e0 e1 (fun x hx => hl x (fun h2 => h.hs_hs hi hj e hx h2) (h.mem_hs hi hx).1 (h.mem_hs hi hx).2) (fun hz => ?_) (fun x hx _ hd => by rw [hm x hx]; exact hd) (fun x hx => h.mem_hs hi hx)
      obtain ⟨ts, e1, _, _⟩ := h.cb.head hz
      have hx : hIx (getA s.l 0) ∈ bx := by rw [e1]; simp
      exact hl _ (fun h2 => h.bx_hs hj hx h2) (h.mem_bx hx).1 (h.mem_bx hx).2
  · have hxr : 0 ≤ x ∧ x < n := h.rng x (by
      have h1 := count_mem.1 hx
      have h2 := hcnt x
      exact count_mem.2 (by omega))
    rw [hm x hxr.1]
    exact dd x hx
/-- a step that writes nothing. -/
theorem Gb.read (h : Gb n N T all q s hs bx fs) {j : Nat} (hj : j < N) {q' : BPr} {s' : BSt} {c' : List Int} (el : s'.l = s.l) (ct : ∀ a, s'.got.count a + c'.count a = s.got.count a + (hs j).count a) (hw : WkB n s.l c' q') : Gb n N (T + 1) all (updF q j q') s' (updF hs j c') bx fs :=
  h.next hj (by rw [el]; exact h.ok) (by rw [el]; exact h.cb) (by rw [el]; exact h.cf) (fun a => by have := ct a; omega) (.inl (by rw [el])) (.inl (by rw [el])) (fun i _ _ _ => by rw [el]) (fun i _ => by rw [el]) (by rw [el]; exact hw) h.dead (by rw [el]; exact h.fit)

/-- what a step turned: nothing; a ticket is laid; a dead one is taken out; it is freed; all are taken out; one is told; a drain ends. -/
def How (q q' : BPr) (s s' : BSt) (c c' bx bx' fs fs' : List Int) : Prop :=
  (q'.l = q.l ∧ c' = c ∧ bx' = bx ∧ fs' = fs ∧ s'.got = s.got ∧ s'.ends = s.ends)
  ∨ (∃ t, q.l = t :: q'.l ∧ (q'.l = [] → bEnded q' = true) ∧ c = q.l ∧ c' = q'.l ∧ bx' = t :: bx ∧ fs' = fs ∧ s'.got = s.got ∧ s'.ends = s.ends)
  ∨ (∃ i, q'.l = q.l ∧ q.l ≠ [] ∧ c = q.l ∧ c' = i :: q.l ∧ bx = i :: bx' ∧ fs' = fs ∧ s'.got = s.got ∧ s'.ends = s.ends)
  ∨ (∃ i, q'.l = q.l ∧ q.l ≠ [] ∧ c = i :: q.l ∧ c' = q.l ∧ bx' = bx ∧ fs' = i :: fs ∧ s'.got = s.got ∧ s'.ends = s.ends)
  ∨ (q'.l = [] ∧ q.l = [] ∧ c = [] ∧ c' = bx ∧ bx' = [] ∧ fs' = fs ∧ s'.got = s.got ∧ s'.ends = s.ends)
  ∨ (∃ i, q'.l = [] ∧ q.l = [] ∧ c = i :: c' ∧ bx' = bx ∧ fs' = fs ∧ s'.got = s.got ++ [i] ∧ s'.ends = s.ends)
  ∨ (q'.l = [] ∧ q.l = [] ∧ c = [] ∧ c' = [] ∧ bx' = bx ∧ fs' = fs ∧ s'.got = s.got ∧ s'.ends = s.ends ++ [(s.got.length : Int)])

/-- how many steps a worker alone has at most. -/
def rk (q : BPr) (l : List Int) (b c : Nat) : Nat :=
  match q.m with
  | .done => 0
  | .pR => 11 * q.l.length + 7 * b + 6
  | .pD o => 11 * q.l.length + 7 * b + (if getA l 0 = o then 5 else 15)
  | .pN o => 11 * q.l.length + 7 * b + (if getA l 0 = o then 4 else 14)
  | .pT o _ => 11 * q.l.length + 7 * b + (if getA l 0 = o then 3 else 13)
  | .pA _ => 11 * q.l.length + 7 * b + 9
  | .pB _ o => 11 * q.l.length + 7 * b + (if getA l 1 = o then 8 else 18)
  | .pC _ o => 11 * q.l.length + 7 * b + (if getA l 1 = o then 7 else 17)
  | .pS o => 11 * q.l.length + 7 * b + (if getA l 0 = o then 4 else 14)
  | .pU o => 11 * q.l.length + 7 * b + (if getA l 0 = o then 3 else 13)
  | .dR => 10 * q.n + 3 * b + 3 * c + 5
  | .dT o => 10 * q.n + 3 * b + 3 * c + (if getA l 0 = o then 4 else 8)
  | .eN _ => 10 * q.n + 3 * b + 3 * c + 2
  | .eI _ => 10 * q.n + 3 * b + 3 * c + 4
theorem rk_startP (l r : List Int) (b c : Nat) : rk (startP r) l b c ≤ 11 * r.length + 7 * b + (if r = [] then 0 else 6) := by
  cases r with
  | nil => exact Nat.zero_le _
  | cons t r => show 11 * (t :: r).length + 7 * b + 6 ≤ _; rw [if_neg (by simp)]; exact Nat.le_refl _
theorem rk_startD (l : List Int) (m b c : Nat) : rk (startD m) l b c ≤ 10 * m + 3 * b + 3 * c := by
  cases m with
  | zero => exact Nat.zero_le _
  | succ m => show 10 * m + 3 * b + 3 * c + 5 ≤ _; omega
/-- a step leaves fewer. -/
def Fewer (n : Nat) (q : BPr) (s : BSt) (c c' bx bx' : List Int) : Prop := bEnded q = true ∨ rk (bStep n q s).1 (bStep n q s).2.l bx'.length c'.length + 1 ≤ rk q s.l bx.length c.length

theorem WkB.startP {n : Nat} {l : List Int} (r : List Int) : WkB n l r (startP r) := by
  cases r with
  | nil => exact ⟨rfl, rfl⟩
  | cons t r => exact ⟨rfl, by simp [Go.Proofs.Ythkklcmmbpffiaa.startP]⟩
theorem startP_l (r : List Int) : (startP r).l = r := by cases r <;> rfl
theorem WkB.startD {n : Nat} {l : List Int} (m : Nat) : WkB n l [] (startD m) := by
  cases m with
  | zero => exact ⟨rfl, rfl⟩
  | succ m => exact ⟨rfl, rfl⟩
theorem startD_l (m : Nat) : (startD m).l = [] := by cases m <;> rfl

theorem Gb.step (h : Gb n N T all q s hs bx fs) {j : Nat} (hj : j < N) (hT : T < 4000000000) (hn : n ≤ 1000) :
    ∃ c' bx' fs', Gb n N (T + 1) all (updF q j (bStep n (q j) s).1) (bStep n (q j) s).2 (updF hs j c') bx' fs' ∧ How (q j) (bStep n (q j) s).1 s (bStep n (q j) s).2 (hs j) c' bx bx' fs fs' ∧ Fewer n (q j) s (hs j) c' bx bx' := by
  have hwj := h.wk j hj
  have has0 : hasA s.l 0 = true := by rw [hasA_iff]; have := h.ok.len; omega
  have has1 : hasA s.l 1 = true := by rw [hasA_iff]; have := h.ok.len; omega
  have self0 : oOkB n (getA s.l 0) (getA s.l 0) := ⟨h.fit 0, Int.le_refl _, fun _ => rfl, h.ok.h0.2⟩
  have self1 : oOkB n (getA s.l 1) (getA s.l 1) := ⟨h.fit 1, Int.le_refl _, fun _ => rfl, h.ok.h1.2⟩
  have cb0 : ∀ {o : Int}, casB s.l 0 o = true → o = getA s.l 0 := fun e => by
    unfold casB at e
    simp [has0] at e
    exact e.symm
  have cb1 : ∀ {o : Int}, casB s.l 1 o = true → o = getA s.l 1 := fun e => by
    unfold casB at e
    simp [has1] at e
    exact e.symm
  have nb0 : ∀ {o : Int}, ¬ casB s.l 0 o = true → ¬ getA s.l 0 = o := fun he e => he (by unfold casB; simp [has0, e])
  have nb1 : ∀ {o : Int}, ¬ casB s.l 1 o = true → ¬ getA s.l 1 = o := fun he e => he (by unfold casB; simp [has1, e])
  have no : ∀ {k o v : Int}, ¬ casB s.l k o = true → casA s.l k o v = s.l := fun he => by unfold casA; rw [if_neg he]
  have g0 : ∀ {o v : Int}, casB s.l 0 o = true → getA (casA s.l 0 o v) 0 = v := fun he => by rw [getA_casA, if_pos ⟨rfl, he⟩]
  have g01 : ∀ {o v : Int}, getA (casA s.l 0 o v) 1 = getA s.l 1 := by intro o v; rw [getA_casA, if_neg (by omega)]
  have g1 : ∀ {o v : Int}, casB s.l 1 o = true → getA (casA s.l 1 o v) 1 = v := fun he => by rw [getA_casA, if_pos ⟨rfl, he⟩]
  have g10 : ∀ {o v : Int}, getA (casA s.l 1 o v) 0 = getA s.l 0 := by intro o v; rw [getA_casA, if_neg (by omega)]
  have gl : ∀ {k o v : Int}, k = 0 ∨ k = 1 → ∀ i : Int, 0 ≤ i → getA (casA s.l k o v) (i + 2) = getA s.l (i + 2) := fun hk i hi => by rw [getA_casA, if_neg (by omega)]
  have gm : ∀ {k o v : Int}, k = 0 ∨ k = 1 → ∀ i : Int, 0 ≤ i → getA (casA s.l k o v) (i + (2 + n)) = getA s.l (i + (2 + n)) := fun hk i hi => by rw [getA_casA, if_neg (by omega)]
  have gf : ∀ {k o i : Int}, k = 0 ∨ k = 1 → Ix0 i → ∀ z, N64 (getA (casA s.l k o (newH o i)) z) := fun hk hi z => by
    rw [getA_casA]
    split
    · exact newH_in hi
    · exact h.fit z
  have ct0 : ∀ {o i : Int}, o = getA s.l 0 → Ix0 i → hCt (newH o i) = hCt (getA s.l 0) + 1 := fun e hi => by
    have h1 := hCt_in (h.fit 0)
    have h2 := h.h0
    rw [hCt_newH hi, e]
    omega
  have ct1 : ∀ {o i : Int}, o = getA s.l 1 → Ix0 i → hCt (newH o i) = hCt (getA s.l 1) + 1 := fun e hi => by
    have h1 := hCt_in (h.fit 1)
    have h2 := h.h1
    rw [hCt_newH hi, e]
    omega
  have inx : ∀ {x : Int}, 0 ≤ x ∧ x < n → Ix0 x := fun hx => by unfold Ix0; omega
  have nxh : ∀ {o : Int}, nxOf (hIx o + 1) = hIx o := by
    intro o
    have := hIx_in (v := o)
    unfold Ix0 at this
    unfold nxOf
    rw [if_neg (by omega)]
    omega
  rcases hq : q j with ⟨m, ql, qn⟩
  rw [hq] at hwj
  cases m with
  | done => exact ⟨hs j, bx, fs, h.read hj rfl (fun a => rfl) hwj, .inl ⟨rfl, rfl, rfl, rfl, rfl, rfl⟩, .inl rfl⟩
  | pR =>
    unfold bStep
    dsimp only
    split
    · rename_i hne
      exact ⟨hs j, bx, fs, h.read hj rfl (fun a => rfl) ⟨hwj.1, hwj.2, self0⟩, .inl ⟨rfl, rfl, rfl, rfl, rfl, rfl⟩, .inr (by unfold bStep; dsimp only; rw [if_pos hne]; simp only [rk, if_true]; omega)⟩
    · rename_i hne
      exact ⟨hs j, bx, fs, h.read hj rfl (fun a => rfl) ⟨hwj.1, hwj.2, self0, hne⟩, .inl ⟨rfl, rfl, rfl, rfl, rfl, rfl⟩, .inr (by unfold bStep; dsimp only; rw [if_neg hne]; simp only [rk, if_true]; omega)⟩
  | pD o =>
    unfold bStep
    dsimp only
    split
    · rename_i hd
      exact ⟨hs j, bx, fs, h.read hj rfl (fun a => rfl) ⟨hwj.1, hwj.2.1, hwj.2.2.1, hwj.2.2.2, hd⟩, .inl ⟨rfl, rfl, rfl, rfl, rfl, rfl⟩, .inr (by unfold bStep; dsimp only; rw [if_pos hd]; simp only [rk]; split <;> omega)⟩
    · rename_i hd
      exact ⟨hs j, bx, fs, h.read hj rfl (fun a => rfl) ⟨hwj.1, hwj.2.1, hwj.2.2.1⟩, .inl ⟨rfl, rfl, rfl, rfl, rfl, rfl⟩, .inr (by unfold bStep; dsimp only; rw [if_neg hd]; simp only [rk]; split <;> omega)⟩
  | pN o => exact ⟨hs j, bx, fs, h.read hj rfl (fun a => rfl) ⟨hwj.1, hwj.2.1, hwj.2.2.1, hwj.2.2.2.1, hwj.2.2.2.2, fun _ => rfl⟩, .inl ⟨rfl, rfl, rfl, rfl, rfl, rfl⟩, .inr (by show rk ⟨.pT o _, ql, qn⟩ s.l _ _ + 1 ≤ rk ⟨.pN o, ql, qn⟩ s.l _ _; simp only [rk]; split <;> omega)⟩
  | pT o y =>
    obtain ⟨w1, w2, w3, w4, w5, w6⟩ := hwj
    unfold bStep
    dsimp only
    by_cases he : casB s.l 0 o = true
    · rw [if_pos he]
      have eo := cb0 he
      obtain ⟨ts, e1, e2, e3⟩ := h.cb.head (by rw [← eo]; exact w4)
      have ey : y = nxOf (getA s.l (hIx (getA s.l 0) + 2)) := by rw [w6 eo, eo]
      have hy : y = -1 ∨ (0 ≤ y ∧ y < n) := by
        rw [ey]
        cases ts with
        | nil => exact .inl e3
        | cons z zs => right; rw [e3.1]; exact h.mem_bx (by rw [e1]; simp)
      have hy0 : Ix0 y := by unfold Ix0; omega
      have hxb : hIx (getA s.l 0) ∈ bx := by rw [e1]; simp
      have hcq : hs j = ql := w1
      refine ⟨hIx o :: ql, ts, fs, h.next hj (BOk.turn h.ok (.inl rfl) hy0 (by omega)) ?_ ?_ (fun a => ?_) (.inr (by show hCt (getA (casA s.l 0 o (newH o y)) 0) = _; rw [g0 he]; exact ct0 eo hy0)) (.inl g01) (fun i _ hi _ => gl (.inl rfl) i hi) (fun i hi => gm (.inl rfl) i hi) ?_ h.dead (gf (.inl rfl) hy0), .inr (.inr (.inl ⟨hIx o, rfl, w2, hcq, rfl, by rw [eo]; exact e1, rfl, rfl, rfl⟩)), .inr (by unfold bStep; dsimp only; rw [if_pos he]; simp only [rk]; rw [if_pos eo.symm, e1]; simp only [List.length_cons]; omega)⟩
      · show ChB (casA s.l 0 o (newH o y)) (hIx (getA (casA s.l 0 o (newH o y)) 0)) ts
        rw [g0 he, hIx_newH hy0, ey]
        exact e3.keep fun z hz => gl (.inl rfl) z (h.mem_bx (by rw [e1]; simp [hz])).1
      · show ChB (casA s.l 0 o (newH o y)) (hIx (getA (casA s.l 0 o (newH o y)) 1)) fs
        rw [g01]
        exact h.cf.keep fun z hz => gl (.inl rfl) z (h.mem_fs hz).1
      · show ts.count a + fs.count a + s.got.count a + (hIx o :: ql).count a = _
        rw [e1, hcq, eo, List.count_cons, List.count_cons]
        omega
      · refine ⟨rfl, w2, ?_⟩
        show getA (casA s.l 0 o (newH o y)) (hIx o + (2 + n)) = 1
        rw [gm (.inl rfl) _ (by rw [eo]; exact e2)]
        exact w5
    · rw [if_neg he]
      exact ⟨hs j, bx, fs, h.read hj (no he) (fun a => rfl) ⟨w1, w2⟩, .inl ⟨rfl, rfl, rfl, rfl, rfl, rfl⟩, .inr (by unfold bStep; dsimp only; rw [if_neg he]; simp only [rk]; rw [if_neg (nb0 he)]; omega)⟩
  | pA i => exact ⟨hs j, bx, fs, h.read hj rfl (fun a => rfl) ⟨hwj.1, hwj.2.1, hwj.2.2, self1⟩, .inl ⟨rfl, rfl, rfl, rfl, rfl, rfl⟩, .inr (by simp only [bStep, rk, if_true]; omega)⟩
  | pB i o =>
    obtain ⟨w1, w2, w3, w4⟩ := hwj
    have hcq : hs j = i :: ql := w1
    have hi : i ∈ hs j := by rw [hcq]; simp
    have hir := h.mem_hs hj hi
    have hox := hIx_in (v := o)
    unfold Ix0 at hox
    have z0 : getA (setA s.l (i + 2) (hIx o + 1)) 0 = getA s.l 0 := by rw [getA_setA]; exact if_neg (by omega)
    have z1 : getA (setA s.l (i + 2) (hIx o + 1)) 1 = getA s.l 1 := by rw [getA_setA]; exact if_neg (by omega)
    have zl : ∀ x : Int, x ≠ i → getA (setA s.l (i + 2) (hIx o + 1)) (x + 2) = getA s.l (x + 2) := fun x hx => by rw [getA_setA]; exact if_neg (by omega)
    have zm : ∀ x : Int, 0 ≤ x → getA (setA s.l (i + 2) (hIx o + 1)) (x + (2 + n)) = getA s.l (x + (2 + n)) := fun x hx => by rw [getA_setA]; exact if_neg (by omega)
    refine ⟨hs j, bx, fs, h.next hj (BOk.lay h.ok w4.2.2.2 hir.1) ?_ ?_ (fun a => rfl) (.inl z0) (.inl z1) (fun x hx _ _ => zl x (fun e => hx (by rw [e]; exact hi))) zm ⟨hcq, w2, ?_, ?_, ?_⟩ h.dead (fun z => ?_), .inl ⟨rfl, rfl, rfl, rfl, rfl, rfl⟩, .inr (by show rk ⟨.pC i o, ql, qn⟩ (setA s.l (i + 2) (hIx o + 1)) _ _ + 1 ≤ rk ⟨.pB i o, ql, qn⟩ s.l _ _; simp only [rk, z1]; split <;> omega)⟩
    · show ChB (setA s.l (i + 2) (hIx o + 1)) (hIx (getA (setA s.l (i + 2) (hIx o + 1)) 0)) bx
      rw [z0]
      exact h.cb.keep fun z hz => zl z (fun e => h.bx_hs hj hz (by rw [e]; exact hi))
    · show ChB (setA s.l (i + 2) (hIx o + 1)) (hIx (getA (setA s.l (i + 2) (hIx o + 1)) 1)) fs
      rw [z1]
      exact h.cf.keep fun z hz => zl z (fun e => h.fs_hs hj hz (by rw [e]; exact hi))
    · show getA (setA s.l (i + 2) (hIx o + 1)) (i + (2 + n)) = 1
      rw [zm i hir.1]; exact w3
    · show oOkB n (getA (setA s.l (i + 2) (hIx o + 1)) 1) o
      rw [z1]; exact w4
    · show getA (setA s.l (i + 2) (hIx o + 1)) (i + 2) = hIx o + 1
      rw [getA_setA, if_pos ⟨rfl, by rw [hasA_iff]; have := h.ok.len; omega⟩]
    · show N64 (getA (setA s.l (i + 2) (hIx o + 1)) z)
      rw [getA_setA]
      split
      · unfold N64; omega
      · exact h.fit z
  | pC i o =>
    obtain ⟨w1, w2, w3, w4, w5⟩ := hwj
    have hcq : hs j = i :: ql := w1
    have hi : i ∈ hs j := by rw [hcq]; simp
    have hir := h.mem_hs hj hi
    unfold bStep
    dsimp only
    by_cases he : casB s.l 1 o = true
    · rw [if_pos he]
      have eo := cb1 he
      have hi0 := inx hir
      refine ⟨ql, bx, i :: fs, h.next hj (BOk.turn h.ok (.inr rfl) hi0 hir.2) ?_ ?_ (fun a => ?_) (.inl g10) (.inr (by show hCt (getA (casA s.l 1 o (newH o i)) 1) = _; rw [g1 he]; exact ct1 eo hi0)) (fun x _ hx _ => gl (.inr rfl) x hx) (fun x hx => gm (.inr rfl) x hx) ⟨rfl, w2⟩ (fun x hx => ?_) (gf (.inr rfl) hi0), .inr (.inr (.inr (.inl ⟨i, rfl, w2, hcq, rfl, rfl, rfl, rfl, rfl⟩))), .inr (by unfold bStep; dsimp only; rw [if_pos he]; simp only [rk]; split <;> omega)⟩
      · show ChB (casA s.l 1 o (newH o i)) (hIx (getA (casA s.l 1 o (newH o i)) 0)) bx
        rw [g10]
        exact h.cb.keep fun z hz => gl (.inr rfl) z (h.mem_bx hz).1
      · show ChB (casA s.l 1 o (newH o i)) (hIx (getA (casA s.l 1 o (newH o i)) 1)) (i :: fs)
        rw [g1 he, hIx_newH hi0]
        refine ⟨rfl, hir.1, ?_⟩
        rw [gl (.inr rfl) i hir.1, w5, nxh, eo]
        exact h.cf.keep fun z hz => by rw [getA_casA, if_neg (by have := (h.mem_fs hz).1; omega)]
      · show bx.count a + (i :: fs).count a + s.got.count a + ql.count a = _
        rw [hcq, List.count_cons, List.count_cons]
        omega
      · rcases List.mem_cons.1 hx with e | e
        · rw [e]; exact w3
        · exact h.dead x e
    · rw [if_neg he]
      exact ⟨hs j, bx, fs, h.read hj (no he) (fun a => rfl) ⟨hcq, w2, w3⟩, .inl ⟨rfl, rfl, rfl, rfl, rfl, rfl⟩, .inr (by unfold bStep; dsimp only; rw [if_neg he]; simp only [rk]; rw [if_neg (nb1 he)]; omega)⟩
  | pS o =>
    obtain ⟨w1, w2, w3⟩ := hwj
    have hcq : hs j = ql := w1
    have w2 : ql ≠ [] := w2
    obtain ⟨t, r, hql⟩ : ∃ t r, ql = t :: r := by
      cases ql with
      | nil => exact absurd rfl w2
      | cons t r => exact ⟨t, r, rfl⟩
    have hhd : ql.headD 0 = t := by rw [hql]; rfl
    have hi : t ∈ hs j := by rw [hcq, hql]; simp
    have hir := h.mem_hs hj hi
    have hox := hIx_in (v := o)
    unfold Ix0 at hox
    have z0 : getA (setA s.l (t + 2) (hIx o + 1)) 0 = getA s.l 0 := by rw [getA_setA]; exact if_neg (by omega)
    have z1 : getA (setA s.l (t + 2) (hIx o + 1)) 1 = getA s.l 1 := by rw [getA_setA]; exact if_neg (by omega)
    have zl : ∀ x : Int, x ≠ t → getA (setA s.l (t + 2) (hIx o + 1)) (x + 2) = getA s.l (x + 2) := fun x hx => by rw [getA_setA]; exact if_neg (by omega)
    have zm : ∀ x : Int, 0 ≤ x → getA (setA s.l (t + 2) (hIx o + 1)) (x + (2 + n)) = getA s.l (x + (2 + n)) := fun x hx => by rw [getA_setA]; exact if_neg (by omega)
    show ∃ c' bx' fs', Gb n N (T + 1) all (updF q j ⟨.pU o, ql, qn⟩) { s with l := setA s.l (ql.headD 0 + 2) (hIx o + 1), k := moreA s.l (ql.headD 0 + 2) s.k } (updF hs j c') bx' fs' ∧ How ⟨.pS o, ql, qn⟩ ⟨.pU o, ql, qn⟩ s { s with l := setA s.l (ql.headD 0 + 2) (hIx o + 1), k := moreA s.l (ql.headD 0 + 2) s.k } (hs j) c' bx bx' fs fs' ∧ Fewer n ⟨.pS o, ql, qn⟩ s (hs j) c' bx bx'
    rw [hhd]
    refine ⟨hs j, bx, fs, h.next hj (BOk.lay h.ok w3.2.2.2 hir.1) ?_ ?_ (fun a => rfl) (.inl z0) (.inl z1) (fun x hx _ _ => zl x (fun e => hx (by rw [e]; exact hi))) zm ⟨hcq, w2, ?_, ?_⟩ h.dead (fun z => ?_), .inl ⟨rfl, rfl, rfl, rfl, rfl, rfl⟩, .inr (by show rk ⟨.pU o, ql, qn⟩ (setA s.l (ql.headD 0 + 2) (hIx o + 1)) _ _ + 1 ≤ rk ⟨.pS o, ql, qn⟩ s.l _ _; rw [hhd]; simp only [rk, z0]; split <;> omega)⟩
    · show ChB (setA s.l (t + 2) (hIx o + 1)) (hIx (getA (setA s.l (t + 2) (hIx o + 1)) 0)) bx
      rw [z0]
      exact h.cb.keep fun z hz => zl z (fun e => h.bx_hs hj hz (by rw [e]; exact hi))
    · show ChB (setA s.l (t + 2) (hIx o + 1)) (hIx (getA (setA s.l (t + 2) (hIx o + 1)) 1)) fs
      rw [z1]
      exact h.cf.keep fun z hz => zl z (fun e => h.fs_hs hj hz (by rw [e]; exact hi))
    · show oOkB n (getA (setA s.l (t + 2) (hIx o + 1)) 0) o
      rw [z0]; exact w3
    · show getA (setA s.l (t + 2) (hIx o + 1)) (ql.headD 0 + 2) = hIx o + 1
      rw [hhd, getA_setA, if_pos ⟨rfl, by rw [hasA_iff]; have := h.ok.len; omega⟩]
    · show N64 (getA (setA s.l (t + 2) (hIx o + 1)) z)
      rw [getA_setA]
      split
      · unfold N64; omega
      · exact h.fit z
  | pU o =>
    obtain ⟨w1, w2, w3, w4⟩ := hwj
    have hcq : hs j = ql := w1
    have w2 : ql ≠ [] := w2
    obtain ⟨t, r, hql⟩ : ∃ t r, ql = t :: r := by
      cases ql with
      | nil => exact absurd rfl w2
      | cons t r => exact ⟨t, r, rfl⟩
    have hhd : ql.headD 0 = t := by rw [hql]; rfl
    have htl : ql.tail = r := by rw [hql]; rfl
    have hi : t ∈ hs j := by rw [hcq, hql]; simp
    have hir := h.mem_hs hj hi
    have w4 : getA s.l (ql.headD 0 + 2) = hIx o + 1 := w4
    rw [hhd] at w4
    unfold bStep
    dsimp only
    rw [hhd, htl]
    by_cases he : casB s.l 0 o = true
    · rw [if_pos he]
      have eo := cb0 he
      have hi0 := inx hir
      refine ⟨r, t :: bx, fs, h.next hj (BOk.turn h.ok (.inl rfl) hi0 hir.2) ?_ ?_ (fun a => ?_) (.inr (by show hCt (getA (casA s.l 0 o (newH o t)) 0) = _; rw [g0 he]; exact ct0 eo hi0)) (.inl g01) (fun x _ hx _ => gl (.inl rfl) x hx) (fun x hx => gm (.inl rfl) x hx) (WkB.startP r) h.dead (gf (.inl rfl) hi0), .inr (.inl ⟨t, by show ql = t :: (startP r).l; rw [startP_l, hql], fun e => (by rw [startP_l] at e; rw [e]; rfl), hcq, (startP_l r).symm, rfl, rfl, rfl, rfl⟩), .inr ?_⟩
      · show ChB (casA s.l 0 o (newH o t)) (hIx (getA (casA s.l 0 o (newH o t)) 0)) (t :: bx)
        rw [g0 he, hIx_newH hi0]
        refine ⟨rfl, hir.1, ?_⟩
        rw [gl (.inl rfl) t hir.1, w4, nxh, eo]
        exact h.cb.keep fun z hz => by rw [getA_casA, if_neg (by have := (h.mem_bx hz).1; omega)]
      · show ChB (casA s.l 0 o (newH o t)) (hIx (getA (casA s.l 0 o (newH o t)) 1)) fs
        rw [g01]
        exact h.cf.keep fun z hz => gl (.inl rfl) z (h.mem_fs hz).1
      · show (t :: bx).count a + fs.count a + s.got.count a + r.count a = _
        rw [hcq, hql, List.count_cons, List.count_cons]
        omega
      · unfold bStep
        dsimp only
        rw [if_pos he, htl]
        have h1 := rk_startP (casA s.l 0 o (newH o (ql.headD 0))) r (t :: bx).length r.length
        have h2 : rk ⟨.pU o, ql, qn⟩ s.l bx.length (hs j).length = 11 * ql.length + 7 * bx.length + 3 := by simp only [rk]; rw [if_pos eo.symm]
        rw [h2, hql]
        simp only [List.length_cons] at h1 ⊢
        have h3 : (if r = [] then 0 else 6) ≤ 6 := by split <;> omega
        rw [hql] at h1
        omega
    · rw [if_neg he]
      exact ⟨hs j, bx, fs, h.read hj (no he) (fun a => rfl) ⟨hcq, w2⟩, .inl ⟨rfl, rfl, rfl, rfl, rfl, rfl⟩, .inr (by unfold bStep; dsimp only; rw [if_neg he]; simp only [rk]; rw [if_neg (nb0 he)]; omega)⟩
  | dR =>
    obtain ⟨w1, w2⟩ := hwj
    unfold bStep
    dsimp only
    split
    · rename_i hne
      refine ⟨[], bx, fs, h.read hj rfl (fun a => by rw [w1]; rfl) (WkB.startD qn), .inr (.inr (.inr (.inr (.inr (.inr ⟨startD_l qn, w2, w1, rfl, rfl, rfl, rfl, rfl⟩))))), .inr ?_⟩
      unfold bStep
      dsimp only
      rw [if_pos hne]
      have h1 := rk_startD s.l qn bx.length 0
      have h2 : (hs j).length = 0 := by rw [w1]; rfl
      have h3 : rk ⟨.dR, ql, qn⟩ s.l bx.length 0 = 10 * qn + 3 * bx.length + 3 * 0 + 5 := rfl
      rw [h2, h3]
      show rk (startD qn) s.l bx.length 0 + 1 ≤ _
      omega
    · rename_i hne
      exact ⟨hs j, bx, fs, h.read hj rfl (fun a => rfl) ⟨w1, w2, self0, hne⟩, .inl ⟨rfl, rfl, rfl, rfl, rfl, rfl⟩, .inr (by unfold bStep; dsimp only; rw [if_neg hne]; simp only [rk, if_true]; omega)⟩
  | dT o =>
    obtain ⟨w1, w2, w3, w4⟩ := hwj
    unfold bStep
    dsimp only
    by_cases he : casB s.l 0 o = true
    · rw [if_pos he]
      have eo := cb0 he
      have hz := hIx_ix w4
      unfold Ix at hz
      have hy0 : Ix0 (-1) := by unfold Ix0; omega
      have ee : eachD qn (hIx o) { s with l := casA s.l 0 o (newH o (-1)), k := moreA s.l 0 s.k } = (⟨.eN (hIx o), [], qn⟩, { s with l := casA s.l 0 o (newH o (-1)), k := moreA s.l 0 s.k }) := by unfold eachD; rw [if_neg (by omega)]
      rw [ee]
      refine ⟨bx, [], fs, h.next hj (BOk.turn h.ok (.inl rfl) hy0 (by omega)) ?_ ?_ (fun a => ?_) (.inr (by show hCt (getA (casA s.l 0 o (newH o (-1))) 0) = _; rw [g0 he]; exact ct0 eo hy0)) (.inl g01) (fun x _ hx _ => gl (.inl rfl) x hx) (fun x hx => gm (.inl rfl) x hx) ⟨?_, rfl, ?_⟩ h.dead (gf (.inl rfl) hy0), .inr (.inr (.inr (.inr (.inl ⟨rfl, w2, w1, rfl, rfl, rfl, rfl, rfl⟩)))), .inr (by unfold bStep; dsimp only; rw [if_pos he, ee]; simp only [rk]; rw [if_pos eo.symm, w1]; simp only [List.length_nil]; omega)⟩
      · show ChB (casA s.l 0 o (newH o (-1))) (hIx (getA (casA s.l 0 o (newH o (-1))) 0)) []
        rw [g0 he, hIx_newH hy0]
        rfl
      · show ChB (casA s.l 0 o (newH o (-1))) (hIx (getA (casA s.l 0 o (newH o (-1))) 1)) fs
        rw [g01]
        exact h.cf.keep fun z hz => gl (.inl rfl) z (h.mem_fs hz).1
      · show ([] : List Int).count a + fs.count a + s.got.count a + bx.count a = _
        rw [w1]
        simp
        omega
      · intro e
        have hcb := h.cb
        rw [e] at hcb
        exact w4 (by rw [eo]; exact hcb)
      · show ChB (casA s.l 0 o (newH o (-1))) (hIx o) bx
        rw [eo]
        exact h.cb.keep fun z hz => by rw [getA_casA, if_neg (by have := (h.mem_bx hz).1; omega)]
    · rw [if_neg he]
      exact ⟨hs j, bx, fs, h.read hj (no he) (fun a => rfl) ⟨w1, w2⟩, .inl ⟨rfl, rfl, rfl, rfl, rfl, rfl⟩, .inr (by unfold bStep; dsimp only; rw [if_neg he]; simp only [rk]; rw [if_neg (nb0 he)]; omega)⟩
  | eN i =>
    obtain ⟨w1, w2, w3⟩ := hwj
    obtain ⟨c', e1, e2, e3⟩ := w3.head (fun e => w1 (w3.none (by omega)))
    refine ⟨c', bx, fs, h.read hj rfl (fun a => ?_) ⟨e3, w2⟩, .inr (.inr (.inr (.inr (.inr (.inl ⟨i, w2, w2, e1, rfl, rfl, rfl, rfl⟩))))), .inr (by simp only [bStep, rk]; rw [e1]; simp only [List.length_cons]; omega)⟩
    show (s.got ++ [i]).count a + c'.count a = _
    rw [e1, List.count_append, List.count_cons, List.count_cons]
    simp
    omega
  | eI x =>
    obtain ⟨w1, w2⟩ := hwj
    unfold bStep
    dsimp only
    by_cases hx : x < 0
    · have hc := w1.none hx
      have ee : eachD qn x s = (startD qn, { s with ends := s.ends ++ [(s.got.length : Int)] }) := by unfold eachD; rw [if_pos hx]
      rw [ee]
      refine ⟨[], bx, fs, h.read hj rfl (fun a => by rw [hc]) (WkB.startD qn), .inr (.inr (.inr (.inr (.inr (.inr ⟨startD_l qn, w2, hc, rfl, rfl, rfl, rfl, rfl⟩))))), .inr ?_⟩
      unfold bStep
      dsimp only
      rw [ee]
      have h1 := rk_startD s.l qn bx.length 0
      have h2 : (hs j).length = 0 := by rw [hc]; rfl
      have h3 : rk ⟨.eI x, ql, qn⟩ s.l bx.length 0 = 10 * qn + 3 * bx.length + 3 * 0 + 4 := rfl
      rw [h2, h3]
      show rk (startD qn) s.l bx.length 0 + 1 ≤ _
      omega
    · have ee : eachD qn x s = (⟨.eN x, [], qn⟩, s) := by unfold eachD; rw [if_neg hx]
      rw [ee]
      refine ⟨hs j, bx, fs, h.read hj rfl (fun a => rfl) ⟨fun e => ?_, rfl, w1⟩, .inl ⟨w2.symm, rfl, rfl, rfl, rfl, rfl⟩, .inr (by unfold bStep; dsimp only; rw [ee]; simp only [rk]; omega)⟩
      rw [e] at w1
      have w1 : x = -1 := w1
      omega
end

end Go.Proofs.Ythkklcmmbpffiaa

/- The inbox's workers as a machine, in memory. -/
namespace Go.Proofs.Ythkklcmmbpffiaa
open Go.RowKit
set_option maxRecDepth 100000

/-- where all lies: the arena, the owner; how many tickets there are. -/
structure BP where
  p : Nat
  c : Nat
  B : Nat
  n : Nat
  ob : Nat
  ex : List Nat
def BP.L (P : BP) : List Nat := [P.p, P.c, P.ob]
def BP.ws (P : BP) : List Addr := [⟨P.ob, 0, none⟩, ⟨P.ob, 1, none⟩]

/-- the state in memory. -/
structure BI (P : BP) (r : Nat) (s : BSt) (w : World) : Prop where
  ar : Arena w P.p P.c s.l s.k
  room : s.k + r ≤ 4611686018427387904
  ok : BOk P.n s.l
  ow : ∃ v u, Lies w P.ob 72 #[v, u] ∧ w.ownsRow P.B 3 1 v s.got.length (intVs s.got) ∧ w.ownsRow P.B 3 1 u s.ends.length (intVs s.ends) ∧ ∀ g, v.ownBlock = some g → u.ownBlock ≠ some g
  hg : ∀ i, i ∈ s.got → Ix i
  he : ∀ i, i ∈ s.ends → Ix i
  size : s.got.length + r ≤ 5000 ∧ s.ends.length + r ≤ 5000
  exl : ∀ b, b ∈ P.ex → b < w.heap.size

def BM (P : BP) : Gm BSt BPr where
  ended := bEnded
  step := bStep P.n
  W q _ := match q.m with
    | .eN i => Ix i
    | _ => True
  I := BI P
  J r s w := BI P r s w ∧ s.got.length + r + 1 ≤ 5000 ∧ s.ends.length + r + 1 ≤ 5000
  B := P.B
  L := P.L
  ws := P.ws
  X := P.ex

/-- what is asked of the blocks. -/
structure BP.Good (P : BP) : Prop where
  low : P.B ≤ P.p ∧ P.B ≤ P.c ∧ P.B ≤ P.ob
  sep : P.p ≠ P.c ∧ P.ob ≠ P.p ∧ P.ob ≠ P.c
  few : P.n ≤ 1000

section
variable {P : BP} {r : Nat} {s : BSt} {w w' : World}
theorem BP.ws_mem {a : Addr} : a ∈ P.ws ↔ a = ⟨P.ob, 0, none⟩ ∨ a = ⟨P.ob, 1, none⟩ := by simp [BP.ws]
theorem BP.L_mem {b : Nat} : b ∈ P.L ↔ b = P.p ∨ b = P.c ∨ b = P.ob := by simp [BP.L]
theorem own_at {w : World} {B : Nat} {v : Value} {n : Nat} {xs : List Value} {g o m c : Nat} (_ : w.ownsRow B 3 1 v n xs) (e : v = .slice (some ⟨g, o, none⟩) m c) : v.ownBlock = some g := by
  rw [e]
  rfl
theorem BI.rw (h : BI P r s w) {b : Nat} (hb : Rw P.ws w b) : P.B ≤ b ∧ ∃ cur, Lies w b 3 cur := by
  obtain ⟨a, ha, o, n, c, e⟩ := hb
  obtain ⟨v, u, hl, hv, hu, _⟩ := h.ow
  rcases BP.ws_mem.1 ha with rfl | rfl
  · rw [show w.cell? ⟨P.ob, 0, none⟩ = some v from hl.cell 0] at e
    injection e with e
    exact own_lies hv e
  · rw [show w.cell? ⟨P.ob, 1, none⟩ = some u from hl.cell 1] at e
    injection e with e
    exact own_lies hu e
/-- worlds in which nothing of the state's own has turned. -/
theorem BI.keep (h : BI P r s w) (k : ∀ b, b < w.heap.size → (b ∈ P.L ∨ Rw P.ws w b) → w'.heap[b]? = w.heap[b]?) (ksz : w.heap.size ≤ w'.heap.size) : BI P r s w' := by
  have kl : ∀ {b : Nat} {t : TypeId} {cs : Array Value}, b ∈ P.L → Lies w b t cs → Lies w' b t cs := fun hb hl => (k _ hl.lt (.inl hb)).trans hl
  have ow : ∀ {a : Addr} {v : Value} {n : Nat} {xs : List Value}, a ∈ P.ws → w.cell? a = some v → w.ownsRow P.B 3 1 v n xs → w'.ownsRow P.B 3 1 v n xs := fun ha hc ho => own_keep ho fun g hg => by
    obtain ⟨_, cur, hl⟩ := own_block ho hg
    refine k g hl.lt (.inr ?_)
    rcases ho.2 with ⟨rfl, _⟩ | ⟨g', cap, cur, rfl, _, _, _⟩
    · cases hg
    · simp [Value.ownBlock] at hg
      subst hg
      exact ⟨_, ha, _, _, _, hc⟩
  obtain ⟨v, u, hl, hv, hu, hne⟩ := h.ow
  exact ⟨⟨kl (BP.L_mem.2 (.inl rfl)) h.ar.head, kl (BP.L_mem.2 (.inr (.inl rfl))) h.ar.body, h.ar.pos, h.ar.most, h.ar.fit, h.ar.k0⟩, h.room, h.ok, ⟨v, u, kl (BP.L_mem.2 (.inr (.inr rfl))) hl, ow (BP.ws_mem.2 (.inl rfl)) (hl.cell 0) hv, ow (BP.ws_mem.2 (.inr rfl)) (hl.cell 1) hu, hne⟩, h.hg, h.he, h.size, fun b hb => Nat.lt_of_lt_of_le (h.exl b hb) ksz⟩

theorem BI.tasks (k : Mv P.B [] [] w w') (h : BI P r s w) : BI P r s w' := by
  refine BI.keep h (fun b hb hm => ?_) k.size
  have lies : ∃ t cs, Lies w b t cs ∧ t ∉ loose := by
    rcases hm with hm | hm
    · rcases BP.L_mem.1 hm with rfl | rfl | rfl
      · exact ⟨_, _, h.ar.head, by decide⟩
      · exact ⟨_, _, h.ar.body, by decide⟩
      · obtain ⟨v, u, hl, _⟩ := h.ow; exact ⟨_, _, hl, by decide⟩
    · obtain ⟨_, cur, hl⟩ := h.rw hm
      exact ⟨_, _, hl, int_not_loose⟩
  obtain ⟨t, cs, hl, ht⟩ := lies
  rcases k.block b hb (by simp) (by rintro ⟨a, ha, _⟩; cases ha) with e | e
  · exact e
  · exact (e.ne hl ht).elim

theorem bm_low (P : BP) (hG : P.Good) (b : Nat) (hb : b ∈ (BM P).L) : P.B ≤ b := by
  obtain ⟨l1, l2, l3⟩ := hG.low
  rcases BP.L_mem.1 hb with rfl | rfl | rfl
  · exact l1
  · exact l2
  · exact l3
theorem bm_ok (P : BP) (hG : P.Good) : (BM P).Ok where
  less r s w h := ⟨h.ar, by have := h.room; omega, h.ok, h.ow, h.hg, h.he, by have := h.size; omega, h.exl⟩
  task r s w w' k h := BI.tasks k h
  ji r s w h := h.1
  jtask r s w w' k h := ⟨BI.tasks k h.1, h.2⟩
  idle r s w h := ⟨⟨h.ar, by have := h.room; omega, h.ok, h.ow, h.hg, h.he, by have := h.size; omega, h.exl⟩, by have := BI.size h; omega, by have := BI.size h; omega⟩
  okw r s w h := by
    refine ⟨fun b hb => ?_, h.exl, ?_, fun b hb => ?_⟩
    · rcases BP.L_mem.1 hb with rfl | rfl | rfl
      · exact h.ar.head.lt
      · exact h.ar.body.lt
      · obtain ⟨v, u, hl, _⟩ := h.ow; exact hl.lt
    · have := h.ar.head.lt
      have := hG.low.1
      show P.B ≤ _
      omega
    · obtain ⟨h1, cur, hl⟩ := h.rw hb
      exact ⟨h1, hl.lt⟩
  cells a ha := by
    rcases BP.ws_mem.1 ha with rfl | rfl
    · exact BP.L_mem.2 (.inr (.inr rfl))
    · exact BP.L_mem.2 (.inr (.inr rfl))

theorem BI.aft (hG : P.Good) {l' : List Int} {k' : Int} (h : BI P (r + 1) s w) (ha : Aft w P.p P.c l' k' w') (ho : BOk P.n l') (hk : k' ≤ s.k + 1) : (BM P).J r { s with l := l', k := k' } w' := by
  obtain ⟨_, s2, s3⟩ := hG.sep
  have own : ∀ {v : Value} {n : Nat} {xs : List Value}, w.ownsRow P.B 3 1 v n xs → w'.ownsRow P.B 3 1 v n xs := fun hr => own_keep hr fun g hg => by
    obtain ⟨_, cur, hl⟩ := own_block hr hg
    exact ha.2.block g hl.lt (by simp; exact ⟨hl.unlike h.ar.head (by decide), hl.unlike h.ar.body (by decide)⟩)
  obtain ⟨v, u, hl, hv, hu, hne⟩ := h.ow
  exact ⟨⟨ha.1, by have := h.room; show k' + _ ≤ _; omega, ho, ⟨v, u, hl.turn ha.2 (by simp; exact ⟨s2, s3⟩), own hv, own hu, hne⟩, h.hg, h.he, ⟨by have := h.size.1; show s.got.length + _ ≤ _; omega, by have := h.size.2; show s.ends.length + _ ≤ _; omega⟩, fun b hb => Nat.lt_of_lt_of_le (h.exl b hb) ha.2.size⟩, by have := h.size.1; show s.got.length + _ + 1 ≤ _; omega, by have := h.size.2; show s.ends.length + _ + 1 ≤ _; omega⟩

def bmAr (P : BP) (hG : P.Good) : (BM P).Ar P.p P.c where
  l s := s.l
  k s := s.k
  put s l k := { s with l := l, k := k }
  hp := BP.L_mem.2 (.inl rfl)
  hc := BP.L_mem.2 (.inr (.inl rfl))
  sep a ha := by
    obtain ⟨_, s2, s3⟩ := hG.sep
    have ha : a ∈ P.ws := ha
    rcases BP.ws_mem.1 ha with rfl | rfl
    · exact ⟨s2, s3⟩
    · exact ⟨s2, s3⟩
  ok := BOk P.n
  okI r s w h := h.ok
  ar r s w h := h.ar
  room r s w h := by have := BI.room h; omega
  aft r s w w' l' k' h ha ho _ hk := BI.aft hG h ha ho hk

/-- both chains: the box's, the free ones'. -/
theorem bm_ch (P : BP) (hG : P.Good) {h : Int} (hh : h = 0 ∨ h = 1) : Gm.ChOk (bmAr P hG) h (fun i => i + 2) (fun o => hIx o < P.n) (fun x => x ≤ P.n) (fun i => 0 ≤ i ∧ i < P.n) where
  hd l hl := by
    rcases hh with rfl | rfl
    · exact hl.h0.2
    · exact hl.h1.2
  nx l o h ho hn := by
    have h1 := hIx_ix hn
    unfold Ix at h1
    obtain ⟨j, hj⟩ := Int.eq_ofNat_of_zero_le h1.1
    have := h.link j (by omega)
    rw [hj]
    exact this
  tk l o x h ho _ _ hx hu := by
    have hin := nxOf_in hx
    have : nxOf x < P.n := by unfold nxOf; split <;> omega
    exact BOk.turn h hh hin this
  ly l o i h ho hy := BOk.lay h ho hy.1
  tn l o i h _ _ hy := by
    have := hG.few
    exact BOk.turn h hh (by unfold Ix0; omega) hy.2
  ix i hy := by have := hG.few; unfold Ix; omega
  room l i hl hy := by
    have hl := hl.len
    constructor
    · rw [hasA_iff]; omega
    · rw [hasA_iff]; omega

theorem bm_put (P : BP) (hG : P.Good) (t : Int) (l : List Int) (n : Nat) : Gm.PutQ (bmAr P hG) 0 1 (fun i => i + 2) (fun i => i + (2 + P.n)) t ⟨.pR, t :: l, n⟩ (fun o => ⟨.pD o, t :: l, n⟩) (fun o => ⟨.pS o, t :: l, n⟩) (fun o => ⟨.pU o, t :: l, n⟩) (fun o => ⟨.pN o, t :: l, n⟩) (fun o y => ⟨.pT o y, t :: l, n⟩) (fun i => ⟨.pA i, t :: l, n⟩) (fun i o => ⟨.pB i o, t :: l, n⟩) (fun i o => ⟨.pC i o, t :: l, n⟩) (fun _ => True) (fun s => (startP l, s)) where
  eR := rfl
  eD _ := rfl
  eS _ := rfl
  eU _ := rfl
  eN _ := rfl
  eT _ _ := rfl
  sR _ := rfl
  sD _ _ := rfl
  sN _ _ := rfl
  sT _ _ _ := rfl
  free _ := ⟨rfl, fun _ => rfl, fun _ => rfl, fun _ => rfl, fun _ _ => rfl, fun _ _ => rfl, fun _ _ _ _ _ => trivial⟩
  sS _ _ := rfl
  sU _ _ := rfl
  wU _ _ _ _ _ := trivial

theorem bm_drain (P : BP) (hG : P.Good) (n : Nat) : Gm.DrainQ (bmAr P hG) 0 ⟨.dR, [], n⟩ (fun o => ⟨.dT o, [], n⟩) (fun _ _ => True) (fun x s => eachD n x s) where
  eR := rfl
  eT _ := rfl
  sR _ := rfl
  sT _ _ := rfl
  wR _ _ _ _ := trivial
  wT _ _ _ _ _ := trivial

theorem bm_each (P : BP) (hG : P.Good) (n : Nat) : Gm.EachQ (bmAr P hG) (fun i => i + 2) (fun i => ⟨.eN i, [], n⟩) (fun x => ⟨.eI x, [], n⟩) (fun i s => { s with got := s.got ++ [i] }) (fun i _ => Ix i) where
  eN _ := rfl
  sN _ _ := rfl
  wN _ _ _ hw := hw
end

theorem ent_link9 : Ent 46 := ent_of Try.func46 (by kernel_rfl) (by kernel_rfl)
theorem bm_lk (P : BP) (w : World) : (BM P).Lk w 46 #[] (fun i => i + 2) := ⟨ent_link9, fun w' i _ hi => (link9_any i hi w').mono fun e w2 h => ⟨h.1, by rw [h.2]; exact Turns.refl _ _⟩⟩

end Go.Proofs.Ythkklcmmbpffiaa

/- The inbox: workers are made; a worker alone comes to its end; tickets die. -/
namespace Go.Proofs.Ythkklcmmbpffiaa
open Go.RowKit
set_option maxRecDepth 100000

section
variable {n N T : Nat} {all : List Int} {q : Nat → BPr} {s : BSt} {hs : Nat → List Int} {bx fs : List Int}
theorem Gb.zero (n : Nat) (k : Int) : Gb n 0 0 [] (fun _ => ⟨.done, [], 0⟩) ⟨List.replicate (2 + 2 * n) 0, k, [], []⟩ (fun _ => []) [] [] := by
  have hz : ∀ i, getA (List.replicate (2 + 2 * n) 0) i = 0 := fun i => getA_zero _ i
  refine ⟨bok_zero n, ?_, ?_, fun a => ?_, fun a => by simp, fun a h => (by cases h), ?_, ?_, fun j hj => absurd hj (Nat.not_lt_zero _), fun x hx => (by cases hx), fun i => ?_⟩
  · show ChB _ (hIx (getA (List.replicate (2 + 2 * n) 0) 0)) []
    rw [hz]; rfl
  · show ChB _ (hIx (getA (List.replicate (2 + 2 * n) 0) 1)) []
    rw [hz]; rfl
  · simp [allB]
  · show hCt (getA (List.replicate (2 + 2 * n) 0) 0) ≤ _
    rw [hz]; decide
  · show hCt (getA (List.replicate (2 + 2 * n) 0) 1) ≤ _
    rw [hz]; decide
  · show N64 (getA (List.replicate (2 + 2 * n) 0) i)
    rw [hz]; unfold N64; omega
/-- a worker more, with tickets that nobody has. -/
theorem Gb.more (h : Gb n N T all q s hs bx fs) {q' : BPr} {c : List Int} (hc : c.Nodup) (hr : ∀ a, a ∈ c → 0 ≤ a ∧ a < n) (hx : ∀ a, a ∈ c → a ∉ all) (hw : WkB n s.l c q') : Gb n (N + 1) T (all ++ c) (updF q N q') s (updF hs N c) bx fs := by
  refine ⟨h.ok, h.cb, h.cf, fun a => ?_, fun a => ?_, fun a ha => ?_, h.h0, h.h1, fun j hj => ?_, h.dead, h.fit⟩
  · rw [allB_succ, updF_same, allB_congr (g := hs) N (fun i hi => updF_ne _ _ (by omega)), List.count_append, List.count_append]
    have := h.cnt a
    omega
  · rw [List.count_append]
    have h1 := h.one a
    have h2 : c.count a ≤ 1 := List.nodup_iff_count.1 hc a
    by_cases h3 : a ∈ c
    · have : all.count a = 0 := List.count_eq_zero.2 (hx a h3)
      omega
    · have : c.count a = 0 := List.count_eq_zero.2 h3
      omega
  · rcases List.mem_append.1 ha with h1 | h1
    · exact h.rng a h1
    · exact hr a h1
  · by_cases e : j = N
    · subst e; rw [updF_same, updF_same]; exact hw
    · rw [updF_ne _ _ e, updF_ne _ _ e]; exact h.wk j (by omega)
theorem Gb.moreD (h : Gb n N T all q s hs bx fs) (m : Nat) : Gb n (N + 1) T all (updF q N (startD m)) s (updF hs N []) bx fs := by
  have := h.more (c := []) (q' := startD m) (by simp) (by simp) (by simp) (WkB.startD m)
  rwa [List.append_nil] at this
theorem Gb.moreP (h : Gb n N T all q s hs bx fs) {c : List Int} (hc : c.Nodup) (hr : ∀ a, a ∈ c → 0 ≤ a ∧ a < n) (hx : ∀ a, a ∈ c → a ∉ all) : Gb n (N + 1) T (all ++ c) (updF q N (startP c)) s (updF hs N c) bx fs := h.more hc hr hx (WkB.startP c)
theorem Gb.later (h : Gb n N T all q s hs bx fs) {T' : Nat} (hT : T ≤ T') : Gb n N T' all q s hs bx fs := ⟨h.ok, h.cb, h.cf, h.cnt, h.one, h.rng, by have := h.h0; omega, by have := h.h1; omega, h.wk, h.dead, h.fit⟩
theorem Gb.congr (h : Gb n N T all q s hs bx fs) {q' : Nat → BPr} (e : ∀ j, j < N → q' j = q j) : Gb n N T all q' s hs bx fs := ⟨h.ok, h.cb, h.cf, h.cnt, h.one, h.rng, h.h0, h.h1, fun j hj => by rw [e j hj]; exact h.wk j hj, h.dead, h.fit⟩
/-- a state that has the same. -/
theorem Gb.same (h : Gb n N T all q s hs bx fs) {s' : BSt} (e1 : s'.l = s.l) (e2 : s'.got = s.got) : Gb n N T all q s' hs bx fs := ⟨by rw [e1]; exact h.ok, by rw [e1]; exact h.cb, by rw [e1]; exact h.cf, by rw [e2]; exact h.cnt, h.one, h.rng, by rw [e1]; exact h.h0, by rw [e1]; exact h.h1, by rw [e1]; exact h.wk, by rw [e1]; exact h.dead, by rw [e1]; exact h.fit⟩
/-- a ticket dies. -/
theorem Gb.dies (h : Gb n N T all q s hs bx fs) {t : Int} (ht : 0 ≤ t) (k : Int) : Gb n N T all q { s with l := setA s.l (t + (2 + n)) 1, k := k } hs bx fs := by
  have z0 : getA (setA s.l (t + (2 + n)) 1) 0 = getA s.l 0 := by rw [getA_setA]; exact if_neg (by omega)
  have z1 : getA (setA s.l (t + (2 + n)) 1) 1 = getA s.l 1 := by rw [getA_setA]; exact if_neg (by omega)
  have zl : ∀ x : Int, x < n → getA (setA s.l (t + (2 + n)) 1) (x + 2) = getA s.l (x + 2) := fun x hx => by rw [getA_setA]; exact if_neg (by omega)
  have zm : ∀ x : Int, getA s.l (x + (2 + n)) = 1 → getA (setA s.l (t + (2 + n)) 1) (x + (2 + n)) = 1 := fun x hx => by
    rw [getA_setA]
    split
    · rfl
    · exact hx
  refine ⟨h.ok.dies ht 1, ?_, ?_, h.cnt, h.one, h.rng, ?_, ?_, fun j hj => ?_, fun x hx => zm x (h.dead x hx), fun i => ?_⟩
  · show ChB (setA s.l (t + (2 + n)) 1) (hIx (getA (setA s.l (t + (2 + n)) 1) 0)) bx
    rw [z0]
    exact h.cb.keep fun x hx => zl x (h.mem_bx hx).2
  · show ChB (setA s.l (t + (2 + n)) 1) (hIx (getA (setA s.l (t + (2 + n)) 1) 1)) fs
    rw [z1]
    exact h.cf.keep fun x hx => zl x (h.mem_fs hx).2
  · show hCt (getA (setA s.l (t + (2 + n)) 1) 0) ≤ _
    rw [z0]; exact h.h0
  · show hCt (getA (setA s.l (t + (2 + n)) 1) 1) ≤ _
    rw [z1]; exact h.h1
  · refine (h.wk j hj).of (.inl z0) (.inl z1) (fun x hx => zl x (h.mem_hs hj hx).2) (fun hz => ?_) (fun x _ _ hx => zm x hx) (fun x hx => h.mem_hs hj hx)
    obtain ⟨ts, e1, _, _⟩ := h.cb.head hz
    exact zl _ (h.mem_bx (x := hIx (getA s.l 0)) (by rw [e1]; simp)).2
  · show N64 (getA (setA s.l (t + (2 + n)) 1) i)
    rw [getA_setA]
    split
    · unfold N64; omega
    · exact h.fit i
/-- steps write no mark. -/
theorem Gb.marks (h : Gb n N T all q s hs bx fs) {j : Nat} (hj : j < N) {x : Int} (hx : 0 ≤ x) : getA (bStep n (q j) s).2.l (x + (2 + n)) = getA s.l (x + (2 + n)) := by
  have hw := h.wk j hj
  have hc : ∀ {o v : Int} {k : Int}, k = 0 ∨ k = 1 → getA (casA s.l k o v) (x + (2 + n)) = getA s.l (x + (2 + n)) := fun hk => by rw [getA_casA, if_neg (by omega)]
  have hse : ∀ {i v : Int}, i < n → getA (setA s.l (i + 2) v) (x + (2 + n)) = getA s.l (x + (2 + n)) := fun hi => by rw [getA_setA]; exact if_neg (by omega)
  have ed : ∀ m y (s' : BSt), (eachD m y s').2.l = s'.l := fun m y s' => by unfold eachD; split <;> rfl
  rcases hq : q j with ⟨m, ql, qn⟩
  rw [hq] at hw
  cases m with
  | done => rfl
  | pR => rfl
  | pD o => rfl
  | pN o => rfl
  | pT o y => exact hc (.inl rfl)
  | pA i => rfl
  | pB i o => exact hse (h.mem_hs hj (x := i) (by rw [hw.1]; simp)).2
  | pC i o =>
    unfold bStep
    dsimp only
    split <;> exact hc (.inr rfl)
  | pS o =>
    have h2 : ql ≠ [] := hw.2.1
    refine hse (h.mem_hs hj (x := ql.headD 0) ?_).2
    rw [hw.1]
    show ql.headD 0 ∈ ql
    cases ql with
    | nil => exact absurd rfl h2
    | cons t r => simp
  | pU o =>
    unfold bStep
    dsimp only
    split <;> exact hc (.inl rfl)
  | dR =>
    unfold bStep
    dsimp only
    split
    · rw [ed]
    · rfl
  | dT o =>
    unfold bStep
    dsimp only
    split
    · rw [ed]; exact hc (.inl rfl)
    · exact hc (.inl rfl)
  | eN i => rfl
  | eI y =>
    unfold bStep
    dsimp only
    rw [ed]
/-- a step counts one access at most. -/
theorem bStep_k (n : Nat) (q : BPr) (s : BSt) : (bStep n q s).2.k ≤ s.k + 1 := by
  have ed : ∀ m y (s' : BSt), (eachD m y s').2.k = s'.k := fun m y s' => by unfold eachD; split <;> rfl
  obtain ⟨m, ql, qn⟩ := q
  cases m with
  | done => show s.k ≤ _; omega
  | pC i o => unfold bStep; dsimp only; split <;> exact moreA_up _ _ _
  | pU o => unfold bStep; dsimp only; split <;> exact moreA_up _ _ _
  | dR =>
    unfold bStep
    dsimp only
    split
    · rw [ed]; exact moreA_up _ _ _
    · exact moreA_up _ _ _
  | dT o =>
    unfold bStep
    dsimp only
    split
    · rw [ed]; exact moreA_up _ _ _
    · exact moreA_up _ _ _
  | eI y =>
    unfold bStep
    dsimp only
    rw [ed]
    omega
  | _ => exact moreA_up _ _ _

/-- what is kept by each step of worker j. -/
def Keeps (n N : Nat) (all : List Int) (j : Nat) (I : (Nat → BPr) → BSt → (Nat → List Int) → List Int → List Int → Prop) : Prop :=
  ∀ T q s hs bx fs c' bx' fs', Gb n N T all q s hs bx fs → I q s hs bx fs → bEnded (q j) = false → Gb n N (T + 1) all (updF q j (bStep n (q j) s).1) (bStep n (q j) s).2 (updF hs j c') bx' fs' →
    How (q j) (bStep n (q j) s).1 s (bStep n (q j) s).2 (hs j) c' bx bx' fs fs' → I (updF q j (bStep n (q j) s).1) (bStep n (q j) s).2 (updF hs j c') bx' fs'

/-- worker j alone, so many steps. -/
theorem Gb.alone {P : BP} (hP : P.n = n) {I : (Nat → BPr) → BSt → (Nat → List Int) → List Int → List Int → Prop} {j : Nat} (hj : j < N) (hn : n ≤ 1000) (hI : Keeps n N all j I) (h : Gb n N T all q s hs bx fs) (hi : I q s hs bx fs) (d : Nat) : ∀ m, T + m < 4000000000 →
    ∃ q' hs' bx' fs', Gb n N (T + m) all q' ((BM P).runN (q j) s d m).2.1 hs' bx' fs' ∧ I q' ((BM P).runN (q j) s d m).2.1 hs' bx' fs' ∧ q' j = ((BM P).runN (q j) s d m).1 ∧ (∀ i, i ≠ j → q' i = q i ∧ hs' i = hs i) ∧
      (bEnded (q' j) = true ∨ rk (q' j) ((BM P).runN (q j) s d m).2.1.l bx'.length (hs' j).length + m ≤ rk (q j) s.l bx.length (hs j).length)
  | 0, _ => ⟨q, hs, bx, fs, h, hi, rfl, fun _ _ => ⟨rfl, rfl⟩, .inr (Nat.le_refl _)⟩
  | m + 1, hT => by
    obtain ⟨q', hs', bx', fs', h1, h2, h3, h4, h5⟩ := Gb.alone hP hj hn hI h hi d m (by omega)
    obtain ⟨s1, hs1⟩ : ∃ s1, ((BM P).runN (q j) s d m).2.1 = s1 := ⟨_, rfl⟩
    have e1 : ((BM P).runN (q j) s d (m + 1)).1 = (BM P).sQ (q' j) s1 := by rw [h3, ← hs1]; rfl
    have e2 : ((BM P).runN (q j) s d (m + 1)).2.1 = (BM P).sS (q' j) s1 := by rw [h3, ← hs1]; rfl
    rw [e1, e2]
    rw [hs1] at h1 h2 h5
    by_cases he : bEnded (q' j) = true
    · have e3 : (BM P).sQ (q' j) s1 = q' j := if_pos he
      have e4 : (BM P).sS (q' j) s1 = s1 := if_pos he
      rw [e3, e4]
      exact ⟨q', hs', bx', fs', h1.later (by omega), h2, rfl, h4, .inl he⟩
    · have hf : bEnded (q' j) = false := by simpa using he
      have e3 : (BM P).sQ (q' j) s1 = (bStep n (q' j) s1).1 := by rw [← hP]; exact if_neg he
      have e4 : (BM P).sS (q' j) s1 = (bStep n (q' j) s1).2 := by rw [← hP]; exact if_neg he
      rw [e3, e4]
      obtain ⟨c2, bx2, fs2, g1, g2, g3⟩ := h1.step hj (by omega) hn
      refine ⟨_, _, bx2, fs2, g1, hI _ _ _ _ _ _ _ _ _ h1 h2 hf g1 g2, updF_same _ _ _, fun i hi => ⟨by rw [updF_ne _ _ hi]; exact (h4 i hi).1, by rw [updF_ne _ _ hi]; exact (h4 i hi).2⟩, ?_⟩
      rw [updF_same, updF_same]
      rcases g3 with g3 | g3
      · rw [hf] at g3; cases g3
      · rcases h5 with h5 | h5
        · rw [hf] at h5; cases h5
        · exact .inr (by omega)
/-- it has ended, if it was given steps enough. -/
theorem Gb.ends {P : BP} (hP : P.n = n) {I : (Nat → BPr) → BSt → (Nat → List Int) → List Int → List Int → Prop} {j : Nat} (hj : j < N) (hn : n ≤ 1000) (hI : Keeps n N all j I) (h : Gb n N T all q s hs bx fs) (hi : I q s hs bx fs) (d m : Nat) (hT : T + m < 4000000000) (hm : rk (q j) s.l bx.length (hs j).length < m) :
    ∃ q' hs' bx' fs', Gb n N (T + m) all q' ((BM P).runN (q j) s d m).2.1 hs' bx' fs' ∧ I q' ((BM P).runN (q j) s d m).2.1 hs' bx' fs' ∧ q' j = ((BM P).runN (q j) s d m).1 ∧ (∀ i, i ≠ j → q' i = q i ∧ hs' i = hs i) ∧ (BM P).ended ((BM P).runN (q j) s d m).1 = true ∧ hs' j = [] ∧ (q' j).m = .done := by
  obtain ⟨q', hs', bx', fs', h1, h2, h3, h4, h5⟩ := h.alone hP hj hn hI hi d m hT
  have he : bEnded (q' j) = true := by
    rcases h5 with h5 | h5
    · exact h5
    · omega
  have hd : (q' j).m = .done := by
    unfold bEnded at he
    revert he
    cases (q' j).m <;> simp
  have hw := h1.wk j hj
  refine ⟨q', hs', bx', fs', h1, h2, h3, h4, by rw [← h3]; exact he, ?_, hd⟩
  unfold WkB at hw
  rw [hd] at hw
  exact hw.1
/-- picks, one by one. -/
theorem Gb.picks {P : BP} (hP : P.n = n) {I : (Nat → BPr) → BSt → (Nat → List Int) → List Int → List Int → Prop} (hn : n ≤ 1000) (hI : ∀ j, j < N → Keeps n N all j I) {c : Cfg BSt BPr} (h : Gb n N T all c.q c.s hs bx fs) (hi : I c.q c.s hs bx fs) (xs : List Int) : ∀ m, m ≤ xs.length → T + m < 4000000000 →
    ∃ hs' bx' fs', Gb n N (T + m) all ((BM P).picks N c xs m).q ((BM P).picks N c xs m).s hs' bx' fs' ∧ I ((BM P).picks N c xs m).q ((BM P).picks N c xs m).s hs' bx' fs'
  | 0, _, _ => ⟨hs, bx, fs, h, hi⟩
  | m + 1, hm, hT => by
    obtain ⟨hs', bx', fs', h1, h2⟩ := Gb.picks hP hn hI h hi xs m (by omega) (by omega)
    rw [picks_succ (BM P) N c xs m (by omega)]
    generalize (BM P).picks N c xs m = c1 at *
    generalize xs.getD m 0 = x at *
    unfold Gm.pick
    by_cases hd : (BM P).does N c1 x = true
    · rw [if_pos hd]
      obtain ⟨j, rfl, hj, hne⟩ : ∃ j : Nat, x = j ∧ j < N ∧ bEnded (c1.q j) = false := by
        simp [Gm.does] at hd
        refine ⟨x.toNat, by omega, by omega, ?_⟩
        show (BM P).ended (c1.q x.toNat) = false
        simpa using hd.2
      simp only [Int.toNat_natCast]
      obtain ⟨c2, bx2, fs2, g1, g2, _⟩ := h1.step hj (by omega) hn
      have e : (BM P).step (c1.q j) c1.s = bStep n (c1.q j) c1.s := by rw [← hP]; rfl
      rw [e]
      exact ⟨_, bx2, fs2, g1, hI j hj _ _ _ _ _ _ _ _ _ h1 h2 hne g1 g2⟩
    · rw [if_neg hd]
      exact ⟨hs', bx', fs', h1.later (by omega), h2⟩
theorem Gb.told (h : Gb n N T all q s hs bx fs) (hn : n ≤ 1000) (ha : all.length ≤ n) : chL s.l (fun i => i + 2) s.l.length (hIx (getA s.l 0)) = bx ∧ chL s.l (fun i => i + 2) s.l.length (hIx (getA s.l 1)) = fs := by
  have hl := h.len ha
  have ho := h.ok.len
  have key : ∀ x : Int, 0 ≤ x ∧ x < n → getA s.l (x + 2) ≤ 4294967295 := fun x hx => by
    obtain ⟨j, rfl⟩ := Int.eq_ofNat_of_zero_le hx.1
    have := h.ok.link j (by omega)
    omega
  exact ⟨h.cb.told (fun i hi => key i (h.mem_bx hi)) (by omega), h.cf.told (fun i hi => key i (h.mem_fs hi)) (by omega)⟩
theorem keeps_true (n N : Nat) (all : List Int) (j : Nat) : Keeps n N all j (fun _ _ _ _ _ => True) := fun _ _ _ _ _ _ _ _ _ _ _ _ _ _ => trivial
/-- a worker that is begun, or in its midst, has not much to do. -/
theorem Gb.rk_le (h : Gb n N T all q s hs bx fs) {j : Nat} (hj : j < N) (ha : all.length ≤ n) : rk (q j) s.l bx.length (hs j).length ≤ 11 * (q j).l.length + 10 * (q j).n + 7 * n + 18 := by
  have h1 := h.len ha
  have h2 : bx.length + (hs j).length ≤ n := by
    have : (bx ++ hs j).length ≤ all.length := count_len _ fun a => by
      rw [List.count_append]
      have := h.cnt a
      have := allB_ge (hs := hs) (j := j) a N hj
      omega
    rw [List.length_append] at this
    omega
  obtain ⟨m, ql, qn⟩ := q j
  cases m <;> simp only [rk] <;> first | omega | (split <;> omega)
end

end Go.Proofs.Ythkklcmmbpffiaa

/- The inbox: what a worker alone does to a box, to the letter. -/
namespace Go.Proofs.Ythkklcmmbpffiaa
open Go.RowKit
set_option maxRecDepth 100000

section
variable {q q' : BPr} {s s' : BSt} {c c' bx bx' fs fs' : List Int}
theorem How.stay (h : How q q' s s' c c' bx bx' fs fs') (hq : q.l ≠ []) (e : q'.l = q.l) (el : c'.length = c.length) : bx' = bx ∧ fs' = fs ∧ s'.got = s.got ∧ s'.ends = s.ends := by
  rcases h with ⟨_, _, h1, h2, h3, h4⟩ | ⟨t, h1, _⟩ | ⟨i, _, _, h1, h2, _⟩ | ⟨i, _, _, h1, h2, _⟩ | ⟨_, h1, _⟩ | ⟨i, _, h1, _⟩ | ⟨_, h1, _⟩
  · exact ⟨h1, h2, h3, h4⟩
  · have := congrArg List.length h1
    rw [e] at this
    simp at this
  · rw [h1, h2] at el; simp only [List.length_cons] at el; omega
  · rw [h1, h2] at el; simp only [List.length_cons] at el; omega
  · exact absurd h1 hq
  · exact absurd h1 hq
  · exact absurd h1 hq
theorem How.out (h : How q q' s s' c c' bx bx' fs fs') (hq : q.l ≠ []) (e : q'.l = q.l) (el : c'.length = c.length + 1) : ∃ i, bx = i :: bx' ∧ c' = i :: q.l ∧ fs' = fs ∧ s'.got = s.got ∧ s'.ends = s.ends := by
  rcases h with ⟨_, h1, _⟩ | ⟨t, h1, _⟩ | ⟨i, _, _, h1, h2, h3, h4, h5, h6⟩ | ⟨i, _, _, h1, h2, _⟩ | ⟨_, h1, _⟩ | ⟨i, _, h1, _⟩ | ⟨_, h1, _⟩
  · rw [h1] at el; omega
  · have := congrArg List.length h1
    rw [e] at this
    simp at this
  · exact ⟨i, h3, h2, h4, h5, h6⟩
  · rw [h1, h2] at el; simp only [List.length_cons] at el; omega
  · exact absurd h1 hq
  · exact absurd h1 hq
  · exact absurd h1 hq
theorem How.freed (h : How q q' s s' c c' bx bx' fs fs') (hq : q.l ≠ []) (e : q'.l = q.l) (el : c.length = c'.length + 1) : ∃ i, c = i :: q.l ∧ bx' = bx ∧ fs' = i :: fs ∧ s'.got = s.got ∧ s'.ends = s.ends := by
  rcases h with ⟨_, h1, _⟩ | ⟨t, h1, _⟩ | ⟨i, _, _, h1, h2, _⟩ | ⟨i, _, _, h1, h2, h3, h4, h5, h6⟩ | ⟨_, h1, _⟩ | ⟨i, _, h1, _⟩ | ⟨_, h1, _⟩
  · rw [h1] at el; omega
  · have := congrArg List.length h1
    rw [e] at this
    simp at this
  · rw [h1, h2] at el; simp only [List.length_cons] at el; omega
  · exact ⟨i, h1, h3, h4, h5, h6⟩
  · exact absurd h1 hq
  · exact absurd h1 hq
  · exact absurd h1 hq
theorem How.laid (h : How q q' s s' c c' bx bx' fs fs') {t : Int} (e : q.l = t :: q'.l) : bx' = t :: bx ∧ fs' = fs ∧ s'.got = s.got ∧ s'.ends = s.ends := by
  have hq : q.l ≠ [] := by rw [e]; simp
  have ne : q'.l ≠ q.l := fun h => by
    have := congrArg List.length e
    rw [h] at this
    simp at this
  rcases h with ⟨h1, _⟩ | ⟨t', h1, _, _, _, h3, h4, h5, h6⟩ | ⟨i, h1, _⟩ | ⟨i, h1, _⟩ | ⟨_, h1, _⟩ | ⟨i, _, h1, _⟩ | ⟨_, h1, _⟩
  · exact absurd h1 ne
  · rw [e] at h1
    injection h1 with h1 _
    rw [h1]
    exact ⟨h3, h4, h5, h6⟩
  · exact absurd h1 ne
  · exact absurd h1 ne
  · exact absurd h1 hq
  · exact absurd h1 hq
  · exact absurd h1 hq
end

/-- the dead first ones are freed. -/
def helpL (d : Int → Bool) : List Int → List Int → List Int × List Int
  | [], fs => ([], fs)
  | x :: bx, fs => if d x = true then helpL d bx (x :: fs) else (x :: bx, fs)
def putAll (d : Int → Bool) : List Int → List Int × List Int → List Int × List Int
  | [], y => y
  | t :: r, y => putAll d r (t :: (helpL d y.1 y.2).1, (helpL d y.1 y.2).2)
theorem helpL_live {d : Int → Bool} {bx fs : List Int} (h : ∀ x r, bx = x :: r → d x = false) : helpL d bx fs = (bx, fs) := by
  cases bx with
  | nil => rfl
  | cons x r =>
    show (if d x = true then _ else _) = _
    rw [h x r rfl]
    rfl

/-- what there will be, when a worker that puts is through. -/
def outP (d : Int → Bool) (q : BPr) (bx fs : List Int) : List Int × List Int :=
  match q.m with
  | .pR => putAll d q.l (bx, fs)
  | .pD _ => putAll d q.l (bx, fs)
  | .pN _ => putAll d q.l (bx, fs)
  | .pT _ _ => putAll d q.l (bx, fs)
  | .pA i => putAll d q.l (bx, i :: fs)
  | .pB i _ => putAll d q.l (bx, i :: fs)
  | .pC i _ => putAll d q.l (bx, i :: fs)
  | .pS _ => putAll d q.l.tail (q.l.headD 0 :: bx, fs)
  | .pU _ => putAll d q.l.tail (q.l.headD 0 :: bx, fs)
  | _ => (bx, fs)
/-- nobody else has been there since it read. -/
def freshP (d : Int → Bool) (l bx : List Int) (q : BPr) : Prop :=
  match q.m with
  | .done => True
  | .pR => True
  | .pA _ => True
  | .pD o => o = getA l 0
  | .pN o => o = getA l 0
  | .pT o _ => o = getA l 0
  | .pB _ o => o = getA l 1
  | .pC _ o => o = getA l 1
  | .pS o => o = getA l 0 ∧ ∀ x r, bx = x :: r → d x = false
  | .pU o => o = getA l 0 ∧ ∀ x r, bx = x :: r → d x = false
  | _ => False
def MarksAre (n : Nat) (l : List Int) (d : Int → Bool) : Prop := ∀ x : Int, 0 ≤ x → x < n → (decide (getA l (x + (2 + n)) = 1) = d x)

structure PutI (n j : Nat) (d : Int → Bool) (R : List Int × List Int) (G E : List Int) (q : Nat → BPr) (s : BSt) (_hs : Nat → List Int) (bx fs : List Int) : Prop where
  fresh : freshP d s.l bx (q j)
  out : outP d (q j) bx fs = R
  marks : MarksAre n s.l d
  got : s.got = G
  ends : s.ends = E

theorem putI_keeps {n N j : Nat} {all : List Int} (hj : j < N) (d : Int → Bool) (R : List Int × List Int) (G E : List Int) : Keeps n N all j (PutI n j d R G E) := by
  intro T q s hs bx fs c' bx' fs' h hi hne h' how
  have hw := h.wk j hj
  have hw' := h'.wk j hj
  have hm' : MarksAre n (bStep n (q j) s).2.l d := fun x h1 h2 => by rw [h.marks hj h1]; exact hi.marks x h1 h2
  have hfr := hi.fresh
  have hout := hi.out
  have hmk := hi.marks
  have has0 : hasA s.l 0 = true := by rw [hasA_iff]; have := h.ok.len; omega
  have has1 : hasA s.l 1 = true := by rw [hasA_iff]; have := h.ok.len; omega
  have yes0 : ∀ {o : Int}, o = getA s.l 0 → casB s.l 0 o = true := fun e => by simp [casB, has0, e]
  have yes1 : ∀ {o : Int}, o = getA s.l 1 → casB s.l 1 o = true := fun e => by simp [casB, has1, e]
  have fin : ∀ {q1 : BPr} {s1 : BSt}, (bStep n (q j) s).1 = q1 → (bStep n (q j) s).2 = s1 → freshP d s1.l bx' q1 → outP d q1 bx' fs' = R → s1.got = G → s1.ends = E →
      PutI n j d R G E (updF q j (bStep n (q j) s).1) (bStep n (q j) s).2 (updF hs j c') bx' fs' := fun e1 e2 h1 h2 h3 h4 => by
    refine ⟨?_, ?_, hm', ?_, ?_⟩
    · rw [updF_same, e1, e2]; exact h1
    · rw [updF_same, e1]; exact h2
    · rw [e2]; exact h3
    · rw [e2]; exact h4
  have hg := hi.got
  have hE := hi.ends
  rw [updF_same, updF_same] at hw'
  rcases hq : q j with ⟨m, ql, qn⟩
  rw [hq] at hw hw' hfr hout hne how fin
  have keep : ∀ {q1 : BPr} {s1 : BSt}, bStep n ⟨m, ql, qn⟩ s = (q1, s1) → ql ≠ [] → q1.l = ql → c'.length = (hs j).length → s1.got = s.got → s1.ends = s.ends → freshP d s1.l bx q1 → outP d q1 bx fs = R →
      PutI n j d R G E (updF q j (bStep n ⟨m, ql, qn⟩ s).1) (bStep n ⟨m, ql, qn⟩ s).2 (updF hs j c') bx' fs' := fun {q1 s1} e h1 h2 h3 h4 h5 h6 h7 => by
    rw [e] at how
    obtain ⟨b1, b2, b3, b4⟩ := how.stay h1 h2 h3
    rw [b1, b2] at fin ⊢
    exact fin (by rw [e]) (by rw [e]) h6 h7 (h4.trans hg) (h5.trans hE)
  cases m with
  | done => cases hne
  | dR => exact hfr.elim
  | dT o => exact hfr.elim
  | eN i => exact hfr.elim
  | eI x => exact hfr.elim
  | pR =>
    obtain ⟨w1, w2⟩ := hw
    by_cases hz : hIx (getA s.l 0) = -1
    · have e : bStep n ⟨.pR, ql, qn⟩ s = (⟨.pS (getA s.l 0), ql, qn⟩, { s with k := moreA s.l 0 s.k }) := by unfold bStep; dsimp only; rw [if_pos hz]
      rw [e] at hw'
      have hbx : bx = [] := h.cb.none (by omega)
      refine keep e w2 rfl (by rw [hw'.1, w1]) rfl rfl ⟨rfl, fun x r hx => by rw [hbx] at hx; cases hx⟩ ?_
      rw [← hout, hbx]
      obtain ⟨t, r, hql⟩ : ∃ t r, ql = t :: r := by
        cases ql with
        | nil => exact absurd rfl w2
        | cons t r => exact ⟨t, r, rfl⟩
      rw [hql]
      rfl
    · have e : bStep n ⟨.pR, ql, qn⟩ s = (⟨.pD (getA s.l 0), ql, qn⟩, { s with k := moreA s.l 0 s.k }) := by unfold bStep; dsimp only; rw [if_neg hz]
      rw [e] at hw'
      exact keep e w2 rfl (by rw [hw'.1, w1]) rfl rfl rfl hout
  | pD o =>
    obtain ⟨w1, w2, w3, w4⟩ := hw
    have hfr : o = getA s.l 0 := hfr
    obtain ⟨ts, e1, e2, _⟩ := h.cb.head (by rw [← hfr]; exact w4)
    have hr := h.mem_bx (x := hIx (getA s.l 0)) (by rw [e1]; simp)
    have hd := hmk _ hr.1 hr.2
    by_cases hz : getA s.l (hIx o + (2 + n)) = 1
    · have e : bStep n ⟨.pD o, ql, qn⟩ s = (⟨.pN o, ql, qn⟩, { s with k := moreA s.l (hIx o + (2 + n)) s.k }) := by unfold bStep; dsimp only; rw [if_pos hz]
      rw [e] at hw'
      exact keep e w2 rfl (by rw [hw'.1, w1]) rfl rfl hfr hout
    · have e : bStep n ⟨.pD o, ql, qn⟩ s = (⟨.pS o, ql, qn⟩, { s with k := moreA s.l (hIx o + (2 + n)) s.k }) := by unfold bStep; dsimp only; rw [if_neg hz]
      rw [e] at hw'
      have hlive : ∀ x r, bx = x :: r → d x = false := fun x r hx => by
        rw [e1] at hx
        injection hx with hx _
        rw [← hx, ← hd, ← hfr]
        simp [hz]
      refine keep e w2 rfl (by rw [hw'.1, w1]) rfl rfl ⟨hfr, hlive⟩ ?_
      rw [← hout]
      obtain ⟨t, r, hql⟩ : ∃ t r, ql = t :: r := by
        cases ql with
        | nil => exact absurd rfl w2
        | cons t r => exact ⟨t, r, rfl⟩
      rw [hql]
      show putAll d r (t :: bx, fs) = putAll d r (t :: (helpL d bx fs).1, (helpL d bx fs).2)
      rw [helpL_live hlive]
  | pN o =>
    obtain ⟨w1, w2, w3, w4, w5⟩ := hw
    have e : bStep n ⟨.pN o, ql, qn⟩ s = (⟨.pT o (nxOf (getA s.l (hIx o + 2))), ql, qn⟩, { s with k := moreA s.l (hIx o + 2) s.k }) := rfl
    rw [e] at hw'
    exact keep e w2 rfl (by rw [hw'.1, w1]) rfl rfl hfr hout
  | pT o y =>
    obtain ⟨w1, w2, w3, w4, w5, _⟩ := hw
    have hfr : o = getA s.l 0 := hfr
    have e : bStep n ⟨.pT o y, ql, qn⟩ s = (⟨.pA (hIx o), ql, qn⟩, { s with l := casA s.l 0 o (newH o y), k := moreA s.l 0 s.k }) := by unfold bStep; dsimp only; rw [if_pos (yes0 hfr)]
    rw [e] at hw' how fin ⊢
    obtain ⟨i, b1, b2, b3, b4, b5⟩ := how.out w2 rfl (by rw [hw'.1, w1]; rfl)
    have hi2 : i = hIx o := by
      have := b2.symm.trans hw'.1
      injection this
    have hr := h.mem_bx (x := i) (by rw [b1]; simp)
    have hd := hmk _ hr.1 hr.2
    have hdt : d i = true := by rw [← hd, hi2]; exact decide_eq_true w5
    refine fin rfl rfl trivial ?_ hg hE
    rw [← hout, b1, b3, ← hi2]
    obtain ⟨t, r, hql⟩ : ∃ t r, ql = t :: r := by
      cases ql with
      | nil => exact absurd rfl w2
      | cons t r => exact ⟨t, r, rfl⟩
    rw [hql]
    show putAll d r (t :: (helpL d bx' (i :: fs)).1, (helpL d bx' (i :: fs)).2) = putAll d r (t :: (helpL d (i :: bx') fs).1, (helpL d (i :: bx') fs).2)
    have : helpL d (i :: bx') fs = helpL d bx' (i :: fs) := by
      show (if d i = true then _ else _) = _
      rw [if_pos hdt]
    rw [this]
  | pA i =>
    obtain ⟨w1, w2, w3⟩ := hw
    have e : bStep n ⟨.pA i, ql, qn⟩ s = (⟨.pB i (getA s.l 1), ql, qn⟩, { s with k := moreA s.l 1 s.k }) := rfl
    rw [e] at hw'
    exact keep e w2 rfl (by rw [hw'.1, w1]) rfl rfl rfl hout
  | pB i o =>
    obtain ⟨w1, w2, w3, w4⟩ := hw
    have hfr : o = getA s.l 1 := hfr
    have e : bStep n ⟨.pB i o, ql, qn⟩ s = (⟨.pC i o, ql, qn⟩, { s with l := setA s.l (i + 2) (hIx o + 1), k := moreA s.l (i + 2) s.k }) := rfl
    rw [e] at hw'
    have hir := h.mem_hs hj (x := i) (by rw [w1]; simp)
    exact keep e w2 rfl (by rw [hw'.1, w1]) rfl rfl (by show o = getA (setA s.l (i + 2) (hIx o + 1)) 1; rw [getA_setA, if_neg (by omega)]; exact hfr) hout
  | pC i o =>
    obtain ⟨w1, w2, w3, w4, w5⟩ := hw
    have hfr : o = getA s.l 1 := hfr
    have e : bStep n ⟨.pC i o, ql, qn⟩ s = (⟨.pR, ql, qn⟩, { s with l := casA s.l 1 o (newH o i), k := moreA s.l 1 s.k }) := by unfold bStep; dsimp only; rw [if_pos (yes1 hfr)]
    rw [e] at hw' how fin ⊢
    obtain ⟨i', b1, b2, b3, b4, b5⟩ := how.freed w2 rfl (by rw [hw'.1, w1]; rfl)
    have hi2 : i' = i := by
      have := b1.symm.trans w1
      injection this
    refine fin rfl rfl trivial ?_ hg hE
    rw [← hout, b2, b3, hi2]
    rfl
  | pS o =>
    obtain ⟨w1, w2, w3⟩ := hw
    obtain ⟨hfr1, hfr2⟩ := (show o = getA s.l 0 ∧ ∀ x r, bx = x :: r → d x = false from hfr)
    have w2 : ql ≠ [] := w2
    have e : bStep n ⟨.pS o, ql, qn⟩ s = (⟨.pU o, ql, qn⟩, { s with l := setA s.l (ql.headD 0 + 2) (hIx o + 1), k := moreA s.l (ql.headD 0 + 2) s.k }) := rfl
    rw [e] at hw'
    have hm : ql.headD 0 ∈ hs j := by
      rw [w1]
      show ql.headD 0 ∈ ql
      cases ql with
      | nil => exact absurd rfl w2
      | cons t r => simp
    have hir := h.mem_hs hj hm
    exact keep e w2 rfl (by rw [hw'.1, w1]) rfl rfl ⟨by show o = getA (setA s.l (ql.headD 0 + 2) (hIx o + 1)) 0; rw [getA_setA, if_neg (by omega)]; exact hfr1, hfr2⟩ hout
  | pU o =>
    obtain ⟨w1, w2, w3, w4⟩ := hw
    obtain ⟨hfr1, hfr2⟩ := (show o = getA s.l 0 ∧ ∀ x r, bx = x :: r → d x = false from hfr)
    have w2 : ql ≠ [] := w2
    have e : bStep n ⟨.pU o, ql, qn⟩ s = (startP ql.tail, { s with l := casA s.l 0 o (newH o (ql.headD 0)), k := moreA s.l 0 s.k }) := by unfold bStep; dsimp only; rw [if_pos (yes0 hfr1)]
    rw [e] at hw' how fin ⊢
    obtain ⟨t, r, hql⟩ : ∃ t r, ql = t :: r := by
      cases ql with
      | nil => exact absurd rfl w2
      | cons t r => exact ⟨t, r, rfl⟩
    subst hql
    obtain ⟨b1, b2, b3, b4⟩ := how.laid (t := t) (by show t :: r = t :: (startP r).l; rw [startP_l])
    have hout : putAll d r (t :: bx, fs) = R := hout
    refine fin rfl rfl ?_ ?_ hg hE
    · show freshP d _ _ (startP r)
      cases r <;> trivial
    · show outP d (startP r) bx' fs' = R
      rw [b1, b2, ← hout]
      cases r <;> rfl

/-- what a worker that drains will have got. -/
def outD (q : BPr) (c bx got ends : List Int) : List Int × List Int :=
  match q.m with
  | .dR => (got ++ bx, ends ++ List.replicate (q.n + 1) ((got ++ bx).length : Int))
  | .dT _ => (got ++ bx, ends ++ List.replicate (q.n + 1) ((got ++ bx).length : Int))
  | .eN _ => (got ++ c, ends ++ List.replicate (q.n + 1) ((got ++ c).length : Int))
  | .eI _ => (got ++ c, ends ++ List.replicate (q.n + 1) ((got ++ c).length : Int))
  | _ => (got, ends)
def freshD (l bx : List Int) (q : BPr) : Prop :=
  match q.m with
  | .done => bx = []
  | .dR => True
  | .dT o => o = getA l 0
  | .eN _ => bx = []
  | .eI _ => bx = []
  | _ => False
structure DrI (n j : Nat) (d : Int → Bool) (R : List Int × List Int) (F : List Int) (q : Nat → BPr) (s : BSt) (hs : Nat → List Int) (bx fs : List Int) : Prop where
  fresh : freshD s.l bx (q j)
  out : outD (q j) (hs j) bx s.got s.ends = R
  marks : MarksAre n s.l d
  fs : fs = F
theorem freshD_start (l : List Int) (m : Nat) : freshD l [] (startD m) := by cases m <;> trivial
theorem outD_start (m : Nat) (c got ends : List Int) : outD (startD m) c [] got ends = (got, ends ++ List.replicate m (got.length : Int)) := by
  cases m with
  | zero => show (got, ends) = (got, ends ++ []); simp
  | succ m => show (got ++ [], ends ++ List.replicate (m + 1) ((got ++ []).length : Int)) = _; simp

theorem drI_keeps {n N j : Nat} {all : List Int} (hj : j < N) (d : Int → Bool) (R : List Int × List Int) (F : List Int) : Keeps n N all j (DrI n j d R F) := by
  intro T q s hs bx fs c' bx' fs' h hi hne h' how
  have hw := h.wk j hj
  have hw' := h'.wk j hj
  have hm' : MarksAre n (bStep n (q j) s).2.l d := fun x h1 h2 => by rw [h.marks hj h1]; exact hi.marks x h1 h2
  have hfr := hi.fresh
  have hout := hi.out
  have hF := hi.fs
  have has0 : hasA s.l 0 = true := by rw [hasA_iff]; have := h.ok.len; omega
  have yes0 : ∀ {o : Int}, o = getA s.l 0 → casB s.l 0 o = true := fun e => by simp [casB, has0, e]
  have fin : ∀ {q1 : BPr} {s1 : BSt}, (bStep n (q j) s).1 = q1 → (bStep n (q j) s).2 = s1 → freshD s1.l bx' q1 → outD q1 c' bx' s1.got s1.ends = R → fs' = F →
      DrI n j d R F (updF q j (bStep n (q j) s).1) (bStep n (q j) s).2 (updF hs j c') bx' fs' := fun e1 e2 h1 h2 h3 => by
    refine ⟨?_, ?_, hm', h3⟩
    · rw [updF_same, e1, e2]; exact h1
    · rw [updF_same, updF_same, e1, e2]; exact h2
  rw [updF_same, updF_same] at hw'
  rcases hq : q j with ⟨m, ql, qn⟩
  rw [hq] at hw hw' hfr hout hne how fin
  have noLen : ∀ {x : Int} {l : List Int}, l = l ++ [x] → False := fun {x l} e => by
    have := congrArg List.length e
    simp at this
  cases m with
  | done => cases hne
  | pR => exact hfr.elim
  | pD o => exact hfr.elim
  | pN o => exact hfr.elim
  | pT o y => exact hfr.elim
  | pA i => exact hfr.elim
  | pB i o => exact hfr.elim
  | pC i o => exact hfr.elim
  | pS o => exact hfr.elim
  | pU o => exact hfr.elim
  | dR =>
    obtain ⟨w1, w2⟩ := hw
    by_cases hz : hIx (getA s.l 0) = -1
    · have e : bStep n ⟨.dR, ql, qn⟩ s = (startD qn, { s with k := moreA s.l 0 s.k, ends := s.ends ++ [(s.got.length : Int)] }) := by unfold bStep; dsimp only; rw [if_pos hz]; rfl
      rw [e] at hw' how fin ⊢
      have hbx : bx = [] := h.cb.none (by omega)
      rcases how with ⟨_, _, _, _, _, h4⟩ | ⟨t, h1, _⟩ | ⟨i, _, h1, _⟩ | ⟨i, _, h1, _⟩ | ⟨_, _, _, _, _, _, _, h4⟩ | ⟨i, _, _, _, _, _, _, h4⟩ | ⟨_, _, _, h1, h2, h3, _, _⟩
      · exact (noLen h4.symm).elim
      · rw [w2] at h1; cases h1
      · exact absurd w2 h1
      · exact absurd w2 h1
      · exact (noLen h4.symm).elim
      · exact (noLen h4.symm).elim
      · refine fin rfl rfl ?_ ?_ (h3.trans hF)
        · rw [h2, hbx]; exact freshD_start _ _
        · rw [h2, hbx]
          show outD (startD qn) c' [] s.got (s.ends ++ [(s.got.length : Int)]) = R
          rw [outD_start, ← hout, hbx]
          show _ = (s.got ++ [], s.ends ++ List.replicate (qn + 1) ((s.got ++ []).length : Int))
          simp [List.replicate_succ]
    · have e : bStep n ⟨.dR, ql, qn⟩ s = (⟨.dT (getA s.l 0), ql, qn⟩, { s with k := moreA s.l 0 s.k }) := by unfold bStep; dsimp only; rw [if_neg hz]
      rw [e] at hw' how fin ⊢
      have hc' : c' = [] := hw'.1
      rcases how with ⟨_, _, h2, h3, _, _⟩ | ⟨t, h1, _⟩ | ⟨i, _, h1, _⟩ | ⟨i, _, h1, _⟩ | ⟨_, _, _, h1, h2, h3, _, _⟩ | ⟨i, _, _, _, _, _, h4, _⟩ | ⟨_, _, _, _, _, _, _, h4⟩
      · rw [h2] at fin ⊢
        exact fin rfl rfl rfl hout (h3.trans hF)
      · rw [w2] at h1; cases h1
      · exact absurd w2 h1
      · exact absurd w2 h1
      · have hb : bx = [] := by rw [← h1, hc']
        rw [h2] at fin ⊢
        rw [hb] at hout
        exact fin rfl rfl rfl hout (h3.trans hF)
      · exact (noLen h4).elim
      · exact (noLen h4).elim
  | dT o =>
    obtain ⟨w1, w2, w3, w4⟩ := hw
    have hfr : o = getA s.l 0 := hfr
    have hz := hIx_ix w4
    unfold Ix at hz
    have e : bStep n ⟨.dT o, ql, qn⟩ s = (⟨.eN (hIx o), [], qn⟩, { s with l := casA s.l 0 o (newH o (-1)), k := moreA s.l 0 s.k }) := by
      unfold bStep
      dsimp only
      rw [if_pos (yes0 hfr)]
      unfold eachD
      rw [if_neg (by omega)]
    rw [e] at hw' how fin ⊢
    have hc' : c' ≠ [] := hw'.1
    rcases how with ⟨_, h1, _, _, _, _⟩ | ⟨t, h1, _⟩ | ⟨i, _, h1, _⟩ | ⟨i, _, h1, _⟩ | ⟨_, _, _, h1, h2, h3, _, _⟩ | ⟨i, _, _, _, _, _, h4, _⟩ | ⟨_, _, _, _, _, _, _, h4⟩
    · exact absurd (h1.trans w1) hc'
    · rw [w2] at h1; cases h1
    · exact absurd w2 h1
    · exact absurd w2 h1
    · rw [h2] at fin ⊢
      refine fin rfl rfl rfl ?_ (h3.trans hF)
      rw [h1, ← hout]
      rfl
    · exact (noLen h4).elim
    · exact (noLen h4).elim
  | eN i =>
    obtain ⟨w1, w2, w3⟩ := hw
    have e : bStep n ⟨.eN i, ql, qn⟩ s = (⟨.eI (nxOf (getA s.l (i + 2))), ql, qn⟩, { s with k := moreA s.l (i + 2) s.k, got := s.got ++ [i] }) := rfl
    rw [e] at hw' how fin ⊢
    have hfr : bx = [] := hfr
    rcases how with ⟨_, _, _, _, h4, _⟩ | ⟨t, h1, _⟩ | ⟨i, _, h1, _⟩ | ⟨i, _, h1, _⟩ | ⟨_, _, _, _, _, _, h4, _⟩ | ⟨y, _, _, h1, h2, h3, h4, _⟩ | ⟨_, _, _, _, _, _, h4, _⟩
    · exact (noLen h4.symm).elim
    · rw [w2] at h1; cases h1
    · exact absurd w2 h1
    · exact absurd w2 h1
    · exact (noLen h4.symm).elim
    · rw [h2] at fin ⊢
      refine fin rfl rfl hfr ?_ (h3.trans hF)
      have hy : y = i := by
        have h4 : s.got ++ [i] = s.got ++ [y] := h4
        have := List.append_cancel_left h4
        injection this with this _
        exact this.symm
      rw [← hout, h1, hy]
      show (s.got ++ [i] ++ c', s.ends ++ List.replicate (qn + 1) ((s.got ++ [i] ++ c').length : Int)) = (s.got ++ i :: c', s.ends ++ List.replicate (qn + 1) ((s.got ++ i :: c').length : Int))
      rw [List.append_assoc]
      rfl
    · exact (noLen h4.symm).elim
  | eI x =>
    obtain ⟨w1, w2⟩ := hw
    have hfr : bx = [] := hfr
    by_cases hx : x < 0
    · have e : bStep n ⟨.eI x, ql, qn⟩ s = (startD qn, { s with ends := s.ends ++ [(s.got.length : Int)] }) := by
        unfold bStep
        dsimp only
        unfold eachD
        rw [if_pos hx]
      rw [e] at hw' how fin ⊢
      have hc := w1.none hx
      rcases how with ⟨_, _, _, _, _, h4⟩ | ⟨t, h1, _⟩ | ⟨i, _, h1, _⟩ | ⟨i, _, h1, _⟩ | ⟨_, _, _, _, _, _, _, h4⟩ | ⟨i, _, _, _, _, _, _, h4⟩ | ⟨_, _, _, h1, h2, h3, _, _⟩
      · exact (noLen h4.symm).elim
      · rw [w2] at h1; cases h1
      · exact absurd w2 h1
      · exact absurd w2 h1
      · exact (noLen h4.symm).elim
      · exact (noLen h4.symm).elim
      · refine fin rfl rfl ?_ ?_ (h3.trans hF)
        · rw [h2, hfr]; exact freshD_start _ _
        · rw [h2, hfr]
          show outD (startD qn) c' [] s.got (s.ends ++ [(s.got.length : Int)]) = R
          rw [outD_start, ← hout, hc]
          show _ = (s.got ++ [], s.ends ++ List.replicate (qn + 1) ((s.got ++ []).length : Int))
          simp [List.replicate_succ]
    · have e : bStep n ⟨.eI x, ql, qn⟩ s = (⟨.eN x, [], qn⟩, s) := by
        unfold bStep
        dsimp only
        unfold eachD
        rw [if_neg hx]
      rw [e] at hw' how fin ⊢
      have hc : hs j ≠ [] := fun e => by
        rw [e] at w1
        have w1 : x = -1 := w1
        omega
      rcases how with ⟨_, h1, h2, h3, _, _⟩ | ⟨t, h1, _⟩ | ⟨i, _, h1, _⟩ | ⟨i, _, h1, _⟩ | ⟨_, _, h1, _⟩ | ⟨i, _, _, _, _, _, h4, _⟩ | ⟨_, _, _, _, _, _, _, h4⟩
      · rw [h2] at fin ⊢
        refine fin rfl rfl hfr ?_ (h3.trans hF)
        rw [h1, ← hout]
        rfl
      · rw [w2] at h1; cases h1
      · exact absurd w2 h1
      · exact absurd w2 h1
      · exact absurd h1 hc
      · exact (noLen h4).elim
      · exact (noLen h4).elim

section
variable {n N T : Nat} {all : List Int} {q : Nat → BPr} {s : BSt} {hs : Nat → List Int} {bx fs : List Int} {P : BP}
/-- a worker that puts, alone. -/
theorem Gb.puts (h : Gb n N T all q s hs bx fs) (hP : P.n = n) {c : List Int} (hc : c.Nodup) (hr : ∀ a, a ∈ c → 0 ≤ a ∧ a < n) (hx : ∀ a, a ∈ c → a ∉ all) (hn : n ≤ 1000) (d : Int → Bool) (hd : MarksAre n s.l d) (m : Nat) (hT : T + m < 4000000000) (hm : 11 * c.length + 7 * bx.length + 6 < m) :
    ∃ q' hs' bx' fs', Gb n (N + 1) (T + m) (all ++ c) q' ((BM P).runN (startP c) s 0 m).2.1 hs' bx' fs' ∧ (bx', fs') = putAll d c (bx, fs) ∧ (BM P).ended ((BM P).runN (startP c) s 0 m).1 = true ∧ ((BM P).runN (startP c) s 0 m).2.1.got = s.got ∧ ((BM P).runN (startP c) s 0 m).2.1.ends = s.ends ∧ MarksAre n ((BM P).runN (startP c) s 0 m).2.1.l d := by
  have h1 := h.moreP hc hr hx
  have hi : PutI n N d (putAll d c (bx, fs)) s.got s.ends (updF q N (startP c)) s (updF hs N c) bx fs := by
    refine ⟨?_, ?_, hd, rfl, rfl⟩
    · rw [updF_same]; cases c <;> trivial
    · rw [updF_same]; cases c <;> rfl
  have hk := rk_startP s.l c bx.length c.length
  have hk2 : (if c = [] then 0 else 6) ≤ 6 := by split <;> omega
  have he := Gb.ends (P := P) hP (Nat.lt_succ_self N) hn (putI_keeps (Nat.lt_succ_self N) d _ _ _) h1 hi 0 m hT (by rw [updF_same, updF_same]; omega)
  rw [updF_same] at he
  obtain ⟨q', hs', bx', fs', g1, g2, g3, _, g5, _, g7⟩ := he
  refine ⟨q', hs', bx', fs', g1, ?_, g5, g2.got, g2.ends, g2.marks⟩
  rw [← g2.out]
  unfold outP
  rw [g7]
/-- a worker that drains, alone. -/
theorem Gb.drains (h : Gb n N T all q s hs bx fs) (hP : P.n = n) (k : Nat) (hn : n ≤ 1000) (d : Int → Bool) (hd : MarksAre n s.l d) (m : Nat) (hT : T + m < 4000000000) (hm : 10 * k + 3 * bx.length + 5 < m) :
    ∃ q' hs' bx', Gb n (N + 1) (T + m) all q' ((BM P).runN (startD (k + 1)) s 0 m).2.1 hs' bx' fs ∧ bx' = [] ∧ (BM P).ended ((BM P).runN (startD (k + 1)) s 0 m).1 = true ∧ ((BM P).runN (startD (k + 1)) s 0 m).2.1.got = s.got ++ bx ∧ ((BM P).runN (startD (k + 1)) s 0 m).2.1.ends = s.ends ++ List.replicate (k + 1) ((s.got ++ bx).length : Int) ∧ MarksAre n ((BM P).runN (startD (k + 1)) s 0 m).2.1.l d := by
  have h1 := h.moreD (k + 1)
  have hi : DrI n N d (s.got ++ bx, s.ends ++ List.replicate (k + 1) ((s.got ++ bx).length : Int)) fs (updF q N (startD (k + 1))) s (updF hs N []) bx fs := by
    refine ⟨?_, ?_, hd, rfl⟩
    · rw [updF_same]; trivial
    · rw [updF_same, updF_same]; rfl
  have hk : rk (startD (k + 1)) s.l bx.length 0 = 10 * k + 3 * bx.length + 3 * 0 + 5 := rfl
  have he := Gb.ends (P := P) hP (Nat.lt_succ_self N) hn (drI_keeps (Nat.lt_succ_self N) d _ _) h1 hi 0 m hT (by rw [updF_same, updF_same]; show rk (startD (k + 1)) s.l bx.length 0 < m; omega)
  rw [updF_same] at he
  obtain ⟨q', hs', bx', fs', g1, g2, g3, _, g5, _, g7⟩ := he
  have hfs := g2.fs
  subst hfs
  have ho := g2.out
  have hfr := g2.fresh
  unfold outD at ho
  unfold freshD at hfr
  rw [g7] at ho hfr
  injection ho with ho1 ho2
  exact ⟨q', hs', bx', g1, hfr, g5, ho1, ho2, g2.marks⟩
theorem putAll_live {d : Int → Bool} : ∀ (c bx fs : List Int), (∀ x, d x = false) → putAll d c (bx, fs) = (c.reverse ++ bx, fs)
  | [], bx, fs, _ => rfl
  | t :: r, bx, fs, h => by
    show putAll d r (t :: (helpL d bx fs).1, (helpL d bx fs).2) = _
    rw [helpL_live (fun x _ _ => h x), putAll_live r _ _ h]
    simp
end

end Go.Proofs.Ythkklcmmbpffiaa

/- The inbox: what was told as put stays in the box till the drain takes all. -/
namespace Go.Proofs.Ythkklcmmbpffiaa
open Go.RowKit
set_option maxRecDepth 100000

/-- the drain hasn't taken yet. -/
def waitD (q : BPr) : Prop := match q.m with
  | .dR => True
  | .dT _ => True
  | _ => False
/-- a drain's work. -/
def isDr (q : BPr) : Prop := match q.m with
  | .dR => True
  | .dT _ => True
  | .eN _ => True
  | .eI _ => True
  | .done => True
  | _ => False
/-- a putter's work. -/
def isPu (q : BPr) : Prop := match q.m with
  | .dR => False
  | .dT _ => False
  | .eN _ => False
  | .eI _ => False
  | _ => True
/-- where the tickets are that were told. -/
structure Kn (en : List Int) (q : BPr) (c bx got : List Int) : Prop where
  w : waitD q → ∀ t, t ∈ en → t ∈ bx
  t : ¬ waitD q → ∀ t, t ∈ en → t ∈ c ∨ t ∈ got
section
variable {n N T : Nat} {all en : List Int} {q : Nat → BPr} {s s' : BSt} {hs : Nat → List Int} {bx fs bx' fs' c' : List Int} {q' : BPr} {j : Nat}
/-- a putter's step takes nothing out, where no ticket is dead. -/
theorem Kn.puts (hlive : ∀ x : Int, x ∈ c' → getA s'.l (x + (2 + n)) ≠ 1) (hw : WkB n s.l (hs j) (q j)) (hw' : WkB n s'.l c' q') (hp : isPu (q j)) (hp' : isPu q') (hne : bEnded (q j) = false) (how : How (q j) q' s s' (hs j) c' bx bx' fs fs') {q0 : BPr} {c : List Int} (h : Kn en q0 c bx s.got) : Kn en q0 c bx' s'.got ∧ ∀ t, t ∈ bx → t ∈ bx' := by
  have hl : (q j).l ≠ [] := by
    rcases hq : q j with ⟨m, ql, qn⟩
    rw [hq] at hw hp hne
    cases m with
    | done => exact absurd hne (by simp [bEnded])
    | pR => exact hw.2
    | pD o => exact hw.2.1
    | pN o => exact hw.2.1
    | pT o y => exact hw.2.1
    | pA i => exact hw.2.1
    | pB i o => exact hw.2.1
    | pC i o => exact hw.2.1
    | pS o => exact hw.2.1
    | pU o => exact hw.2.1
    | dR => exact hp.elim
    | dT o => exact hp.elim
    | eN i => exact hp.elim
    | eI x => exact hp.elim
  have fin : s'.got = s.got → (∀ t, t ∈ bx → t ∈ bx') → Kn en q0 c bx' s'.got ∧ ∀ t, t ∈ bx → t ∈ bx' := fun e1 e2 => ⟨⟨fun hw t ht => e2 t (h.w hw t ht), by rw [e1]; exact h.t⟩, e2⟩
  rcases how with ⟨_, _, e, _, e1, _⟩ | ⟨t, _, _, _, _, e, _, e1, _⟩ | ⟨i, e2, _, _, e4, e, _, e1, _⟩ | ⟨i, _, _, _, _, e, _, e1, _⟩ | ⟨_, e, _⟩ | ⟨i, _, e, _⟩ | ⟨_, e, _⟩
  · exact fin e1 fun t ht => by rw [e]; exact ht
  · exact fin e1 fun y hy => by rw [e]; exact List.mem_cons_of_mem _ hy
  · exfalso
    have no : c' ≠ q'.l := fun e5 => by
      rw [e4, e2] at e5
      have := congrArg List.length e5
      simp at this
    rcases hq : q' with ⟨m, ql, qn⟩
    rw [hq] at hw' hp' no
    cases m with
    | done => exact no (hw'.1.trans hw'.2.symm)
    | pR => exact no hw'.1
    | pD o => exact no hw'.1
    | pN o => exact no hw'.1
    | pT o y => exact no hw'.1
    | pA i => exact hlive _ (by rw [hw'.1]; simp) hw'.2.2
    | pB i o => exact hlive _ (by rw [hw'.1]; simp) hw'.2.2.1
    | pC i o => exact hlive _ (by rw [hw'.1]; simp) hw'.2.2.1
    | pS o => exact no hw'.1
    | pU o => exact no hw'.1
    | dR => exact hp'.elim
    | dT o => exact hp'.elim
    | eN i => exact hp'.elim
    | eI x => exact hp'.elim
  · exact fin e1 fun t ht => by rw [e]; exact ht
  · exact absurd e hl
  · exact absurd e hl
  · exact absurd e hl
/-- a drain's step. -/
theorem Kn.drains (hcb : ChB s.l (hIx (getA s.l 0)) bx) (hw : WkB n s.l (hs 0) (q 0)) (hw' : WkB n s'.l c' q') (hq' : (bStep n (q 0) s).1 = q') (hp : isDr (q 0)) (hn : (q 0).n = 0) (hne : bEnded (q 0) = false) (how : How (q 0) q' s s' (hs 0) c' bx bx' fs fs') (h : Kn en (q 0) (hs 0) bx s.got) : Kn en q' c' bx' s'.got := by
  rcases hq : q 0 with ⟨m, ql, qn⟩
  rw [hq] at hw hp hne how h hn hq'
  have hn : qn = 0 := hn
  subst hn
  have keepW : waitD q' → (∀ t, t ∈ en → t ∈ bx) → ql = [] → hs 0 = [] → (c' = []) → Kn en q' c' bx' s'.got := fun hwq hb e0 e1 e2 => by
    refine ⟨fun _ t ht => ?_, fun hx => absurd hwq hx⟩
    have ht := hb t ht
    rcases how with ⟨_, _, e, _⟩ | ⟨t, e, _⟩ | ⟨i, _, e, _⟩ | ⟨i, _, e, _⟩ | ⟨_, _, _, e, _⟩ | ⟨i, _, _, e, _⟩ | ⟨_, _, _, _, e, _⟩
    · rw [e]; exact ht
    · have e : ql = t :: q'.l := e
      rw [e0] at e; cases e
    · exact absurd e0 e
    · exact absurd e0 e
    · rw [e2] at e; rw [← e] at ht; cases ht
    · rw [e1] at e; cases e
    · rw [e]; exact ht
  have keepT : ¬ waitD q' → (∀ t, t ∈ en → t ∈ hs 0 ∨ t ∈ s.got) → ql = [] → Kn en q' c' bx' s'.got := fun hwq hb e0 => by
    refine ⟨fun hx => absurd hx hwq, fun _ t ht => ?_⟩
    have ht := hb t ht
    rcases how with ⟨_, e, _, _, e2, _⟩ | ⟨t, e, _⟩ | ⟨i, _, e, _⟩ | ⟨i, _, e, _⟩ | ⟨_, _, e, e1, _, _, e2, _⟩ | ⟨i, _, _, e, _, _, e2, _⟩ | ⟨_, _, e, e1, _, _, e2, _⟩
    · rw [e, e2]; exact ht
    · have e : ql = t :: q'.l := e
      rw [e0] at e; cases e
    · exact absurd e0 e
    · exact absurd e0 e
    · rw [e2]
      rw [e] at ht
      rcases ht with h1 | h1
      · cases h1
      · exact .inr h1
    · rw [e2]
      rw [e] at ht
      rcases ht with h1 | h1
      · rcases List.mem_cons.1 h1 with rfl | h1
        · exact .inr (List.mem_append.2 (.inr (by simp)))
        · exact .inl h1
      · exact .inr (List.mem_append.2 (.inl h1))
    · rw [e2]
      rw [e] at ht
      rcases ht with h1 | h1
      · cases h1
      · exact .inr h1
  cases m with
  | done => exact absurd hne (by simp [bEnded])
  | dR =>
    have hb := h.w trivial
    have hq2 : (if hIx (getA s.l 0) = -1 then eachD 0 (-1) { s with k := moreA s.l 0 s.k } else (⟨.dT (getA s.l 0), ql, 0⟩, { s with k := moreA s.l 0 s.k })).1 = q' := hq'
    by_cases hx : hIx (getA s.l 0) = -1
    · have e : bx = [] := hcb.none (by omega)
      have e0 : en = [] := List.eq_nil_iff_forall_not_mem.2 fun t ht => by have := hb t ht; rw [e] at this; cases this
      subst e0
      exact ⟨fun _ t ht => (by cases ht), fun _ t ht => (by cases ht)⟩
    · rw [if_neg hx] at hq2
      subst hq2
      exact keepW trivial hb hw.2 hw.1 hw'.1
  | dT o =>
    have hb := h.w trivial
    have hq2 : (if casB s.l 0 o = true then eachD 0 (hIx o) { s with l := casA s.l 0 o (newH o (-1)), k := moreA s.l 0 s.k } else (⟨.dR, ql, 0⟩, { s with l := casA s.l 0 o (newH o (-1)), k := moreA s.l 0 s.k })).1 = q' := hq'
    by_cases hx : casB s.l 0 o = true
    · rw [if_pos hx] at hq2
      have hi := hIx_ix hw.2.2.2
      unfold Ix at hi
      unfold eachD at hq2
      rw [if_neg (by omega)] at hq2
      subst hq2
      have hc0 : hs 0 = [] := hw.1
      refine ⟨fun hx => hx.elim, fun _ t ht => ?_⟩
      have ht := hb t ht
      rcases how with ⟨_, e, _⟩ | ⟨t, e, _⟩ | ⟨i, _, e, _⟩ | ⟨i, _, e, _⟩ | ⟨_, _, _, e, _⟩ | ⟨i, _, _, e, _⟩ | ⟨_, _, _, e, _⟩
      · exact absurd (e.trans hc0) hw'.1
      · have e0 : ql = [] := hw.2.1
        have e : ql = t :: _ := e
        rw [e0] at e; cases e
      · exact absurd hw.2.1 e
      · exact absurd hw.2.1 e
      · rw [e]; exact .inl ht
      · rw [hc0] at e; cases e
      · exact absurd e hw'.1
    · rw [if_neg hx] at hq2
      subst hq2
      exact keepW trivial hb hw.2.1 hw.1 hw'.1
  | eN i =>
    have hq2 : (⟨.eI (nxOf (getA s.l (i + 2))), ql, 0⟩ : BPr) = q' := hq'
    subst hq2
    exact keepT (fun hx => hx) (h.t fun hx => hx) hw.2.1
  | eI x =>
    have hq2 : (eachD 0 x s).1 = q' := hq'
    unfold eachD at hq2
    by_cases hx : x < 0
    · rw [if_pos hx] at hq2
      subst hq2
      exact keepT (fun hx => hx) (h.t fun hx => hx) hw.2
    · rw [if_neg hx] at hq2
      subst hq2
      exact keepT (fun hx => hx) (h.t fun hx => hx) hw.2
  | pR => exact hp.elim
  | pD o => exact hp.elim
  | pN o => exact hp.elim
  | pT o y => exact hp.elim
  | pA i => exact hp.elim
  | pB i o => exact hp.elim
  | pC i o => exact hp.elim
  | pS o => exact hp.elim
  | pU o => exact hp.elim
end

end Go.Proofs.Ythkklcmmbpffiaa
