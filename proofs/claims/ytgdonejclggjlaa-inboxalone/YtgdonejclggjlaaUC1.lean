/- Layer 8: the document's Pop and Push. -/
import Derived.Test.YtgdonejclggjlaaUA6
import Derived.BigQuiet
import Derived.RegionTactic
import Derived.BigRegion
import Derived.ProofKit
import Derived.WalkKit
import Derived.Laws.MakeOwn
import Derived.Deep.Grids
import Derived.Deep.DeepCutAuto
namespace Go.Proofs.Ytgdonejclggjlaa
open Go.RowKit
set_option maxRecDepth 100000

theorem Row.tail1 {w : World} {A : Option Addr} {n cp : Nat} {x : Int} {xs : List Int} (h : Row w .i64 A (n + 1) (x :: xs)) (hc : n + 1 ≤ cp) : Row w .i64 (tailO A cp) n xs := by
  refine ⟨by have := h.len; simp at this; exact this, by have := h.most; omega, fun y hy => h.wf y (by simp [hy]), fun hn => ?_⟩
  obtain ⟨a, rfl, hab, hcell⟩ := h.at_ (by omega)
  refine ⟨a.add 1, by unfold tailO; rw [if_neg (by omega)]; rfl, by rw [add_block]; exact hab, fun i hi => ?_⟩
  have := hcell (i + 1) (by omega)
  rw [Go.Deep.add_add, show 1 + i = i + 1 by omega, this]
  simp

theorem refpop_none (A : Option Addr) (cp : Nat) (w : World) :
    Calls Try.prog 16 #[.slice A 0 cp] w fun e w' => e = .returned (.tuple #[.slice A 0 cp, .int .i64 (-1), .bool false]) ∧ w' = w := by
  go_enter Try.func16, Try.ntmps16
  go_wp2
  go_ret3
  exact ⟨rfl, rfl⟩
theorem refpop_some (A : Option Addr) (n cp : Nat) (x : Int) (xs : List Int) (w : World) (h : Row w .i64 A (n + 1) (x :: xs)) (hn : n ≤ 100000) :
    Calls Try.prog 16 #[.slice A (n + 1) cp] w fun e w' => e = .returned (.tuple #[.slice (tailO A cp) n (cp - 1), .int .i64 x, .bool true]) ∧ w' = w.drew := by
  obtain ⟨a, rfl, hab, hcell⟩ := h.at_ (by omega)
  have hc0 := hcell 0 (by omega)
  have e0 : a.add 0 = a := by simp [Addr.add]
  simp only [List.getD_cons_zero, e0] at hc0
  clear e0
  have hsl := slice_tail1 (t := 31) (e := 3) Try.underlying31 (by kernel_rfl) (some a) (n + 1) cp (by omega)
  rw [Nat.add_sub_cancel] at hsl
  have hn1 : ¬ ((n : Int) + 1 = 0) := by omega
  clear hcell h
  go_enter Try.func16, Try.ntmps16
  go_wp2_with fail
  go_region
  go_wp2
  go_ret3
  exact ⟨rfl, rfl⟩
theorem refpush_any (A : Option Addr) (n cp : Nat) (i : Int) (xs : List Int) (w : World) (h : Row w .i64 A n xs) (hi : (Lit.int .i64 i).wf = true) (hn : n ≤ 10000) :
    Calls Try.prog 17 #[.slice A n cp, .int .i64 i] w fun e w' => ∃ v, e = .returned v ∧ IRow w' w.heap.size v (i :: xs) ∧ Below w.heap.size w w' := by
  have hL := IRow.lit w (B := w.heap.size) [i] #[.int .i64 i] rfl (Nat.le_refl _) (Ints.one hi) (by simp)
  have k0 : Below w.heap.size w (w.alloc (.cells #[.int .i64 i] 3)) := (Below.refl _ _).alloc (Nat.le_refl _) _
  have hr := h.keep (Nat.le_refl _) k0
  rcases Nat.eq_zero_or_pos n with h0 | h0
  · subst h0
    have hxs : xs = [] := List.length_eq_zero_iff.1 h.len
    subst hxs
    obtain ⟨i0, hi0, _⟩ := info_parts int_info4
    clear h hr
    go_enter Try.func17, Try.ntmps17
    go_wp2_with (first | (at_builtin; refine wpList_irow_zero rfl (.tmp 6) (.tmp 7) 31 rfl 3 i0 Try.underlying31 hi0 _ 1 1 A 0 cp rfl (Nat.le_refl _) rfl rfl ?_) | fail)
    go_ret
    exact ⟨_, rfl, hL, k0⟩
  · clear h
    go_enter Try.func17, Try.ntmps17
    go_wp2_with (first | (at_builtin; refine wpList_irow hL (by simp) rfl (.tmp 6) (.tmp 7) rfl rfl rfl hr h0 (by simp; omega) ?_; intro v' w' r1 r2 _) | fail)
    go_ret
    exact ⟨_, rfl, r1, k0.trans r2⟩

end Go.Proofs.Ytgdonejclggjlaa

/- The inbox: the document's Put. -/
namespace Go.Proofs.Ytgdonejclggjlaa
open Go.RowKit
set_option maxRecDepth 100000

/-- 'append([]int{x}, l...)'. -/
theorem wpList_litapp {W : World} {A : Option Addr} {n c : Nat} {x : Int} {xs : List Int} {ops : Array Oper} {rest : List Oper} {o : Oper} {a : Act} {Q : Exit → Act → World → Prop} (hgd : o.guard = none) (s y : Operand) (ho : o.op = .call { callee := .builtin .append, args := #[s, y], argTypes := #[31, 31] })
    (hs : a.eval s = .slice (some ⟨W.heap.size, 0, none⟩) 1 1) (hy : a.eval y = .slice A n c) (hr : Row W .i64 A n xs) (hx : (Lit.int .i64 x).wf = true) (hl : n ≤ 10000)
    (hK : ∀ v' w', IRow w' W.heap.size v' (x :: xs) → Below W.heap.size W w' → wpList Try.prog ops Q rest (a.put o.dst v') w') : wpList Try.prog ops Q (o :: rest) a (W.alloc (.cells #[.int .i64 x] 3)) := by
  have hL := IRow.lit W (B := W.heap.size) [x] #[.int .i64 x] rfl (Nat.le_refl _) (Ints.one hx) (by simp)
  have k0 : Below W.heap.size W (W.alloc (.cells #[.int .i64 x] 3)) := (Below.refl _ _).alloc (Nat.le_refl _) _
  rcases Nat.eq_zero_or_pos n with h0 | h0
  · subst h0
    have hxs : xs = [] := List.length_eq_zero_iff.1 hr.len
    subst hxs
    obtain ⟨i0, hi0, _⟩ := info_parts int_info4
    exact wpList_irow_zero hgd s y 31 ho 3 i0 Try.underlying31 hi0 ⟨W.heap.size, 0, none⟩ 1 1 A 0 c rfl (Nat.le_refl _) hs hy (hK _ _ hL k0)
  · exact wpList_irow hL (by simp) hgd s y ho hs hy (hr.keep (Nat.le_refl _) k0) h0 (by simp; omega) (fun v' w' r1 r2 _ => hK _ _ r1 (k0.trans r2))

/-- a slice that can be read: it is the one of old, or was made since. -/
structure Rd (w0 : World) (v0 : Value) (xs0 : List Int) (v : Value) (xs : List Int) (W : World) : Prop where
  at_ : ∃ A c, v = .slice A xs.length c ∧ Row W .i64 A xs.length xs
  old : (v = v0 ∧ xs = xs0) ∨ IRow W w0.heap.size v xs
  be : Below w0.heap.size w0 W

/-- in the document's loop: what is left of the tickets, what is free. -/
structure Pl (w : World) (d : Int → Bool) (xs fs : List Int) (fv0 lv fv : Value) (n : Nat) (W : World) : Prop where
  l : ∃ ys zs, ys.length = n ∧ helpL d ys zs = helpL d xs fs ∧ (∃ A c, lv = .slice A n c ∧ n ≤ c ∧ Row w .i64 A n ys) ∧ Rd w fv0 fs fv zs W ∧ (∀ y, y ∈ ys → 0 ≤ y ∧ y < 20) ∧ zs.length + ys.length ≤ 100

set_option maxHeartbeats 1000000 in
theorem refput9 (A B : Option Addr) (n m cl cf cd db : Nat) (xs fs : List Int) (t : Int) (d : Int → Bool) (w : World) (hx : Row w .i64 A n xs) (hcl : n ≤ cl) (hf : Row w .i64 B m fs) (hd : db < w.heap.size) (hdc : ∀ i : Nat, i < 20 → w.cell? ⟨db, i, none⟩ = some (.bool (d i))) (hr : ∀ y, y ∈ xs → 0 ≤ y ∧ y < 20) (hlen : fs.length + xs.length ≤ 100) (ht : (Lit.int .i64 t).wf = true) :
    Calls Try.prog 29 #[.slice A n cl, .slice B m cf, .int .i64 t, .slice (some ⟨db, 0, none⟩) 20 cd] w fun e w' => ∃ v1 v2, e = .returned (.tuple #[v1, v2]) ∧ IRow w' w.heap.size v1 (t :: (helpL d xs fs).1) ∧ Rd w (.slice B m cf) fs v2 (helpL d xs fs).2 w' := by
  have h0 : Pl w d xs fs (.slice B m cf) (.slice A n cl) (.slice B m cf) n w := by
    have h1 := hx.len
    have h2 := hf.len
    subst h2
    exact ⟨xs, fs, h1, rfl, ⟨A, cl, rfl, hcl, hx⟩, ⟨⟨B, cf, rfl, hf⟩, .inl ⟨rfl, rfl⟩, Below.refl _ _⟩, hr, hlen⟩
  have HD := Lib.hid (And.intro hd hdc)
  clear hx hf hd hdc hr hlen hcl
  go_enter Try.func29, Try.ntmps29
  go_wp2_with fail
  go_loopw [0, 1] (fun lv fv W => ∃ k, Pl w d xs fs (.slice B m cf) lv fv k W) (fun lv _ _ => match lv with | .slice _ k _ => k | _ => 0)
  case atStart => exact ⟨_, h0⟩
  case round =>
    clear h0
    obtain ⟨k, ys, zs, hyl, hh, ⟨A', c', rfl, hc', hry⟩, hrd, hyr, hln⟩ := hrel
    generalize wr = W at *
    generalize u1 = fv at *
    obtain ⟨⟨B', cf', rfl, hrz⟩, hold, hbe⟩ := hrd
    obtain ⟨hd, hdc⟩ := HD.out
    have hryW := hry.keep (Nat.le_refl _) hbe
    have hzl : zs.length ≤ 100 := by omega
    cases ys with
    | nil =>
      obtain rfl : k = 0 := by simpa using hyl.symm
      have e1 : helpL d xs fs = ([], zs) := hh.symm
      have F : ∀ v w', IRow w' W.heap.size v [t] → Below W.heap.size W w' → IRow w' w.heap.size v (t :: (helpL d xs fs).1) ∧ Rd w (.slice B m cf) fs (.slice B' zs.length cf') (helpL d xs fs).2 w' := fun v w' r b => by
        rw [e1]
        exact ⟨r.less hbe.size, ⟨⟨B', cf', rfl, hrz.keep (Nat.le_refl _) b⟩, hold.imp id fun h => h.below b (Nat.le_refl _), hbe.trans (b.mono hbe.size)⟩⟩
      have HF := Lib.hid F
      clear F hold hrz hh hdc hry hyr e1
      generalize zs.length = Lz at *
      go_wp2_with (first | (at_builtin; refine wpList_litapp rfl (.tmp 30) (.tmp 31) rfl rfl rfl hryW ht (by omega) ?_; intro v' w' r1 r2) | fail)
      go_ret2
      exact ⟨_, _, rfl, HF.out _ _ r1 r2⟩
    | cons y ys =>
      obtain ⟨k, rfl⟩ : ∃ k', k = k' + 1 := ⟨k - 1, by simp at hyl; omega⟩
      have hyl2 : ys.length = k := by simpa using hyl
      obtain ⟨a, rfl, hab, hcell⟩ := hryW.at_ (by omega)
      have hc0 := hcell 0 (by omega)
      have e0 : a.add 0 = a := by simp [Addr.add]
      simp only [List.getD_cons_zero, e0] at hc0
      have hyb := hyr y (by simp)
      obtain ⟨q, rfl⟩ := Int.eq_ofNat_of_zero_le hyb.1
      have hq20 : q < 20 := by omega
      have hdq := (hbe.cell (p := ⟨db, q, none⟩) hd).trans (hdc q hq20)
      have hql : (q : Int) < 20 := by omega
      have hk1 : (0 : Int) < (k : Int) + 1 := by omega
      cases hdd : d (q : Int) with
      | false =>
        rw [hdd] at hdq
        have e1 : helpL d xs fs = ((q : Int) :: ys, zs) := by rw [← hh]; show (if d (q : Int) = true then _ else _) = _; rw [if_neg (by rw [hdd]; simp)]
        have F : ∀ v w', IRow w' W.heap.size v (t :: (q : Int) :: ys) → Below W.heap.size W w' → IRow w' w.heap.size v (t :: (helpL d xs fs).1) ∧ Rd w (.slice B m cf) fs (.slice B' zs.length cf') (helpL d xs fs).2 w' := fun v w' r b => by
          rw [e1]
          exact ⟨r.less hbe.size, ⟨⟨B', cf', rfl, hrz.keep (Nat.le_refl _) b⟩, hold.imp id fun h => h.below b (Nat.le_refl _), hbe.trans (b.mono hbe.size)⟩⟩
        have HF := Lib.hid F
        clear F hold hrz hh hdc hry hyr hcell hdd e1 e0
        generalize zs.length = Lz at *
        go_wp2_with (first | (at_builtin; refine wpList_litapp rfl (.tmp 30) (.tmp 31) rfl rfl rfl hryW ht (by omega) ?_; intro v' w' r1 r2) | fail)
        go_ret2
        exact ⟨_, _, rfl, HF.out _ _ r1 r2⟩
      | true =>
        rw [hdd] at hdq
        have hsl := slice_tail1 (t := 31) (e := 3) Try.underlying31 (by kernel_rfl) (some a) (k + 1) c' (by omega)
        rw [Nat.add_sub_cancel] at hsl
        have hwq : (Lit.int .i64 (q : Int)).wf = true := WalkArith.wf_i64 (by omega)
        have F : ∀ v w', IRow w' W.heap.size v ((q : Int) :: zs) → Below W.heap.size W w' → Pl w d xs fs (.slice B m cf) (.slice (tailO (some a) c') k (c' - 1)) v k w' := fun v w' r b => by
          obtain ⟨Av, cv, e2, hv2⟩ := r.row
          refine ⟨ys, (q : Int) :: zs, hyl2, ?_, ⟨_, _, rfl, by omega, Row.tail1 hry hc'⟩, ⟨⟨Av, cv, e2, hv2⟩, .inr (r.less hbe.size), hbe.trans (b.mono hbe.size)⟩, fun y hy => hyr y (by simp [hy]), by simp at hln ⊢; omega⟩
          rw [← hh]
          show _ = (if d (q : Int) = true then _ else _)
          rw [if_pos hdd]
        have HF := Lib.hid F
        clear F hold hh hdc hry hyr hcell hdd e0 hryW
        generalize zs.length = Lz at *
        go_wp2_with (first | (at_builtin; refine wpList_litapp rfl (.tmp 24) (.tmp 25) rfl rfl rfl hrz hwq (by omega) ?_; intro v' w' r1 r2) | fail)
        go_roundw
        case rel => exact ⟨k, HF.out _ _ r1 r2⟩
        case measure => simp

end Go.Proofs.Ytgdonejclggjlaa

/- Tasks over any machine: one that ends, however many steps it may have; the inbox's tasks, as they are made. -/
namespace Go.Proofs.Ytgdonejclggjlaa
open Go.RowKit Go.ChangeShapes Go.WideShapes
set_option maxRecDepth 100000

section
variable {St Pr : Type} {M : Gm St Pr}
theorem runN_same {q : Pr} {s : St} {d m0 : Nat} (h : M.ended (M.runN q s d m0).1 = true) {j : Nat} (hj : m0 ≤ j) : M.runN q s d j = M.runN q s d m0 := by
  have := runN_end h (j - m0)
  rwa [show m0 + (j - m0) = j by omega] at this
set_option maxRecDepth 100000 in
theorem finish_e {m m0 : Nat} {q : Pr} {s : St} {d t : Nat} {w : World} (hM : M.Ok) (most : Nat) (hmost : m0 ≤ most) (hbig : most < 4611686018427387904) (hm : m0 < m) (h : M.Task m q d t w) (hi : M.I m s w) (hend : M.ended (M.runN q s d m0).1 = true) (hW : ∀ j, j ≤ m0 → M.ended (M.runN q s d j).1 = false → M.W (M.runN q s d j).1 (M.runN q s d j).2.1) (hd : d + m < 4611686018427387904) :
    Calls Try.prog 18 #[ptr t, .int .i64 most] w fun e w' => e = .returned (.bool true) ∧
      M.Task (m - (m0 + 1)) (M.runN q s d m0).1 (M.runN q s d m0).2.2 t w' ∧ M.I (m - (m0 + 1)) (M.runN q s d m0).2.1 w' ∧ Fr (t :: M.L) M.ws w w' ∧ Mv M.B (M.L ++ M.X) M.ws w w' := by
  have h0 : M.Und m q s d t w 0 w := ⟨h, hi, Fr.refl _ _ _, Mv.refl _ _ _ _⟩
  have downI : ∀ k n (W : World) s', M.I (n + k) s' W → M.I n s' W := fun k => by
    induction k with
    | zero => exact fun n W s' h => h
    | succ k ih => exact fun n W s' h => ih n W s' (hM.less _ _ _ h)
  have fin : ∀ j W, j ≤ m0 + 1 → M.runN q s d j = M.runN q s d m0 → M.Und m q s d t w j W → M.Task (m - (m0 + 1)) (M.runN q s d m0).1 (M.runN q s d m0).2.2 t W ∧ M.I (m - (m0 + 1)) (M.runN q s d m0).2.1 W ∧ Fr (t :: M.L) M.ws w W ∧ Mv M.B (M.L ++ M.X) M.ws w W := fun j W hj e hU => by
    have h1 := hU.tk
    have h2 := hU.inv
    rw [e] at h1 h2
    exact ⟨h1.to (by omega), downI (m0 + 1 - j) _ _ _ (by rw [show m - (m0 + 1) + (m0 + 1 - j) = m - j by omega]; exact h2), hU.fr, hU.mo⟩
  clear h hi
  go_enter Try.func18, Try.ntmps18
  go_wp2_with fail
  go_loopw [6] (fun i wr => ∃ j : Nat, i = .int .i64 j ∧ j ≤ m0 ∧ M.Und m q s d t w j wr) (fun i _ => (most - intOf i).toNat)
  case atStart => exact ⟨0, rfl, by omega, h0⟩
  case round =>
    clear h0
    obtain ⟨j, rfl, hj, hU⟩ := hrel
    by_cases hlt : j < most
    · have c1 := hU.next hM (by omega) (hW j hj) hd
      cases hb : M.ended (M.runN q s d (j + 1)).1 with
      | true =>
        rw [hb] at c1
        have e1 : M.runN q s d (j + 1) = M.runN q s d m0 := by
          rcases (by omega : j + 1 ≤ m0 ∨ j = m0) with h1 | h1
          · exact (runN_same hb h1).symm
          · subst h1; exact runN_same hend (by omega)
        have F := Lib.hid (fin (j + 1))
        have E1 := Lib.hid e1
        have HB := Lib.hid hb
        clear hU e1 hb fin
        go_wp2_with fail
        refine c1.mono ?_
        rintro e w1 ⟨rfl, hU⟩
        have c2 := ended_g hU.tk
        rw [HB.out] at c2
        have HU := Lib.hid (F.out _ (by omega) E1.out hU)
        clear hU c1
        go_wp2_with fail
        refine c2.mono ?_
        rintro e w1 ⟨rfl, rfl⟩
        go_wp2
        go_ret
        exact ⟨rfl, HU.out⟩
      | false =>
        have hjm : j + 1 ≤ m0 := by
          rcases (by omega : j + 1 ≤ m0 ∨ j = m0) with h1 | h1
          · exact h1
          · subst h1
            rw [runN_same hend (show j ≤ j + 1 by omega), hend] at hb
            cases hb
        rw [hb] at c1
        clear hU hb fin
        go_wp2_with fail
        refine c1.mono ?_
        rintro e w1 ⟨rfl, hU⟩
        go_wp2
        go_roundw
        case rel => exact ⟨j + 1, by go_num, hjm, hU⟩
        case measure => simp [intOf]; omega
    · obtain rfl : j = most := by omega
      obtain rfl : j = m0 := by omega
      have c2 := ended_g hU.tk
      rw [hend] at c2
      have HU := Lib.hid (fin j _ (by omega) rfl hU)
      clear hU fin
      go_wp2_with fail
      refine c2.mono ?_
      rintro e w1 ⟨rfl, rfl⟩
      go_wp2
      go_ret
      exact ⟨rfl, HU.out⟩
/-- one of all tasks is finished. -/
theorem Gm.All.fin {m m0 N : Nat} {ts : Nat → Nat} {c : Cfg St Pr} {W : World} (hM : M.Ok) (h : M.All m N ts c W) (hinj : ∀ i j, i < N → j < N → ts i = ts j → i = j) {j : Nat} (hj : j < N) (most : Nat) (hmost : m0 ≤ most) (hbig : most < 4611686018427387904) (hm : m0 < m) (hend : M.ended (M.runN (c.q j) c.s (c.d j) m0).1 = true)
    (hW : ∀ i, i ≤ m0 → M.ended (M.runN (c.q j) c.s (c.d j) i).1 = false → M.W (M.runN (c.q j) c.s (c.d j) i).1 (M.runN (c.q j) c.s (c.d j) i).2.1) (hd : c.d j + m < 4611686018427387904) :
    Calls Try.prog 18 #[ptr (ts j), .int .i64 most] W fun e w' => e = .returned (.bool true) ∧ M.All (m - (m0 + 1)) N ts ⟨(M.runN (c.q j) c.s (c.d j) m0).2.1, updF c.q j (M.runN (c.q j) c.s (c.d j) m0).1, updF c.d j (M.runN (c.q j) c.s (c.d j) m0).2.2, c.n⟩ w' ∧ Fr (tsL N ts ++ M.L) M.ws W w' ∧ Mv M.B (M.L ++ M.X) M.ws W w' := by
  refine (finish_e hM most hmost hbig hm (h.tk j hj) h.inv hend hW hd).mono ?_
  rintro e w' ⟨he1, a1, a2, a3, a4⟩
  refine ⟨he1, ⟨fun i hi => ?_, a2⟩, a3.more (fun b hb => ?_), a4⟩
  · by_cases hij : i = j
    · subst hij
      show M.Task _ (updF c.q i _ i) (updF c.d i _ i) _ _
      rw [updF_same, updF_same]
      exact a1
    · show M.Task _ (updF c.q j _ i) (updF c.d j _ i) _ _
      rw [updF_ne _ _ hij, updF_ne _ _ hij]
      have h1 := (h.tk i hi).to (m := m - (m0 + 1)) (by omega)
      refine h1.keep (a3.block _ h1.lt (fun hm => ?_) h1.row) a4
      rcases List.mem_cons.1 hm with h2 | h2
      · exact hij (hinj i j hi hj h2)
      · exact h1.out h2
  · rcases List.mem_cons.1 hb with h1 | h1
    · subst h1
      exact List.mem_append.2 (.inl (tsL_mem.2 ⟨j, hj, rfl⟩))
    · exact List.mem_append.2 (.inr h1)
theorem runN_dle {q : Pr} {s : St} {d : Nat} (m : Nat) : (M.runN q s d m).2.2 ≤ d + m := runN_dd m
end

section
variable {P : BP} {r B : Nat} {s : BSt} {W W' : World} {K : List Nat}
theorem mv_tasks (hG : P.Good) (h : BI P r s W) (t : Turns K W W') (hK : ∀ b, b ∈ K → IsTask P.B W b) : Mv P.B (P.L ++ P.ex) P.ws W W' :=
  Mv.of_turns t (fun b hb => .inr (.inr (hK b hb))) fun x hx => ⟨((bm_ok P hG).okw _ _ _ h).lt _ ((bm_ok P hG).cells x hx), fun hm => by
    obtain ⟨v, u, hl, _⟩ := h.ow
    rcases BP.ws_mem.1 hx with rfl | rfl
    · exact (hK _ hm).ne hl (by decide)
    · exact (hK _ hm).ne hl (by decide)⟩
theorem BI.tasked (h : BI P r s W) (t : Turns K W W') (hK : ∀ b, b ∈ K → IsTask P.B W b) : BI P r s W' :=
  BI.tasks (Mv.of_turns t (fun b hb => .inr (.inr (hK b hb))) fun x hx => (by cases hx)) h

/-- so many tasks were made, and nothing else has come about. -/
structure Tk9 (P : BP) (r N : Nat) (ts : Nat → Nat) (qs : Nat → BPr) (tv : Value) (W : World) : Prop where
  tk : ∀ k, k < N → (BM P).Task r (qs k) 0 (ts k) W
  inj : ∀ i j, i < N → j < N → ts i = ts j → i = j
  tv : VRow W P.B 35 tv ((List.range N).map fun k => ptr (ts k))
section
variable {N : Nat} {ts : Nat → Nat} {qs : Nat → BPr} {tv tv' : Value}
theorem Tk9.turns (hG : P.Good) (hi : BI P r s W) (h : Tk9 P r N ts qs tv W) (t : Turns [] W W') : Tk9 P r N ts qs tv W' :=
  ⟨fun k hk => (h.tk k hk).keep (t.block _ (h.tk k hk).lt (by simp)) (((bm_ok P hG).okw _ _ _ hi).mv (bm_ok P hG) t), h.inj, h.tv.turns t (by simp)⟩
theorem Tk9.isTask (h : Tk9 P r N ts qs tv W) : ∀ b, b ∈ tv.ownBlock.toList → IsTask P.B W b := fun b hb => by
  obtain ⟨h1, cur, h2⟩ := h.tv.lies (g := b) (by simpa using hb)
  exact ⟨h1, _, _, by decide, h2⟩
/-- one more: its code was made, it is laid, and stands behind the others. -/
theorem Tk9.next (hG : P.Good) (hi : BI P r s W) (h : Tk9 P r N ts qs tv W) {q : BPr} {v : Value} (hc : (BM P).Code r q v W) (t : Turns tv.ownBlock.toList (W.alloc (.cells #[v, .int .i64 0] 89)) W')
    (hv : VRow W' P.B 35 tv' ((List.range N).map (fun k => ptr (ts k)) ++ [ptr W.heap.size])) : Tk9 P r (N + 1) (updF ts N W.heap.size) (updF qs N q) tv' W' ∧ BI P r s W' ∧ Mv P.B (P.L ++ P.ex) P.ws W W' ∧ Turns tv.ownBlock.toList W W' := by
  have hM := bm_ok P hG
  have hw := hM.okw _ _ _ hi
  have k1 : Turns [] W (W.alloc (.cells #[v, .int .i64 0] 89)) := (Turns.refl _ _).alloc _
  have tk := Gm.Task.made hM hw hc
  have hi1 := hi.turns k1 (by simp)
  have h1 := h.turns hG hi k1
  have hK := h1.isTask
  have m1 := hw.mv hM k1
  have m2 := mv_tasks hG hi1 t hK
  have ne : ∀ {b : Nat} {cs : Array Value}, Lies (W.alloc (.cells #[v, .int .i64 0] 89)) b 89 cs → b ∉ tv.ownBlock.toList := fun hl hm => by
    obtain ⟨_, cur, h2⟩ := h1.tv.lies (g := _) (by simpa using hm)
    exact hl.unlike h2 (by decide) rfl
  refine ⟨⟨fun k hk => ?_, fun i j hi' hj' e => ?_, ?_⟩, hi1.tasked t hK, m1.trans m2, (k1.more (by simp)).trans t⟩
  · by_cases e : k = N
    · subst e
      rw [updF_same, updF_same]
      obtain ⟨u, hl, _⟩ := tk.at_
      exact tk.keep (t.block _ tk.lt (ne hl)) m2
    · rw [updF_ne _ _ e, updF_ne _ _ e]
      have tk' := h1.tk k (by omega)
      obtain ⟨u, hl, _⟩ := tk'.at_
      exact tk'.keep (t.block _ tk'.lt (ne hl)) m2
  · have hlt : ∀ k, k < N → ts k < W.heap.size := fun k hk => (h.tk k hk).lt
    by_cases e1 : i = N <;> by_cases e2 : j = N
    · omega
    · rw [e1, updF_same, updF_ne _ _ e2] at e
      have := hlt j (by omega)
      omega
    · rw [e2, updF_same, updF_ne _ _ e1] at e
      have := hlt i (by omega)
      omega
    · rw [updF_ne _ _ e1, updF_ne _ _ e2] at e
      exact h.inj i j (by omega) (by omega) e
  · rw [List.range_succ, List.map_append]
    have e : (List.range N).map (fun k => ptr (updF ts N W.heap.size k)) = (List.range N).map (fun k => ptr (ts k)) := List.map_congr_left fun k hk => by
      have := List.mem_range.1 hk
      rw [updF_ne _ _ (by omega)]
    rw [e, List.map_singleton, updF_same]
    exact hv
/-- the first one, in a slice of its own. -/
theorem Tk9.first (hG : P.Good) (hi : BI P r s W) {q : BPr} {v : Value} (hc : (BM P).Code r q v W) :
    Tk9 P r 1 (fun _ => W.heap.size) (fun _ => q) (.slice (some ⟨W.heap.size + 1, 0, none⟩) 1 1) ((W.alloc (.cells #[v, .int .i64 0] 89)).alloc (.cells #[ptr W.heap.size] 35)) := by
  have hM := bm_ok P hG
  have hw := hM.okw _ _ _ hi
  have k1 : Turns [] W (W.alloc (.cells #[v, .int .i64 0] 89)) := (Turns.refl _ _).alloc _
  have tk := Gm.Task.made hM hw hc
  have hi1 := hi.turns k1 (by simp)
  have k2 : Turns [] (W.alloc (.cells #[v, .int .i64 0] 89)) ((W.alloc (.cells #[v, .int .i64 0] 89)).alloc (.cells #[ptr W.heap.size] 35)) := (Turns.refl _ _).alloc _
  refine ⟨fun k hk => tk.keep (k2.block _ tk.lt (by simp)) ((hM.okw _ _ _ hi1).mv hM k2), fun i j hi' hj' _ => by omega, ⟨rfl, .inr ⟨W.heap.size + 1, 1, #[ptr W.heap.size], rfl, ?_, ?_, Nat.le_refl _, by simp only [maxLen]; simp, rfl, rfl⟩⟩⟩
  · have := hw.base
    show P.B ≤ _
    have : P.B ≤ W.heap.size := this
    omega
  · have := heap_alloc_new (W.alloc (.cells #[v, .int .i64 0] 89)) (.cells #[ptr W.heap.size] 35)
    simpa using this
theorem Tk9.trow (h : Tk9 P r N ts qs tv W) (hi : BI P r s W) (hN : N ≤ 100) : ∃ A cp, tv = .slice A N cp ∧ (BM P).TRow W A N ts := by
  obtain ⟨A, cp, h1, _, h2⟩ := h.tv.slice
  have hl : ((List.range N).map fun i => ptr (ts i)).length = N := by simp
  rw [hl] at h1 h2
  refine ⟨A, cp, h1, by simp only [maxLen]; omega, h.inj, fun hn => ?_⟩
  obtain ⟨g, rfl, h3, h4⟩ := h2 hn
  obtain ⟨_, cur, hlg⟩ := h.tv.lies h3
  have ha := hi.apart_ty hlg (by decide) (by decide) (by decide) (by decide)
  refine ⟨_, rfl, hlg.lt, ha.1, ha.2, fun i hi' e => ?_, fun i hi' => ?_⟩
  · obtain ⟨v, hv, _⟩ := (h.tk i hi').at_
    exact hlg.unlike hv (by decide) e
  · rw [Addr.add_mid, Nat.zero_add]
    exact h4 i _ (by simp [hi'])
theorem Tk9.all (h : Tk9 P r N ts qs tv W) (hi : BI P r s W) : (BM P).All r N ts ⟨s, qs, fun _ => 0, 0⟩ W := ⟨fun i hi' => h.tk i hi', hi⟩
end
end

end Go.Proofs.Ytgdonejclggjlaa

/- Layer 8: what a worker alone does to the stack. -/
namespace Go.Proofs.Ytgdonejclggjlaa
open Go.RowKit
set_option maxRecDepth 100000

/-- from x on these things follow. -/
def Ch (l : List Int) : Int → List Int → Prop
  | x, [] => x = -1
  | x, i :: is => x = i ∧ 0 ≤ i ∧ Ch l (nxOf (getA l (i + 1))) is
theorem Ch.told {l : List Int} : ∀ {ts : List Int} {x : Int} {n : Nat}, Ch l x ts → (∀ i, i ∈ ts → getA l (i + 1) ≤ 4294967295) → ts.length ≤ n → chL l (fun i => i + 1) n x = ts
  | [], x, n, h, _, _ => by
    have h : x = -1 := h
    rw [h, chL_stop]
  | i :: is, x, n, h, hb, hn => by
    obtain ⟨rfl, h1, h2⟩ := h
    obtain ⟨m, rfl⟩ : ∃ m, n = m + 1 := ⟨n - 1, by simp at hn; omega⟩
    show (if x = -1 then [] else x :: chL l (fun i => i + 1) m (lkd (getA l (x + 1)))) = _
    rw [if_neg (by omega), lkd_nx (hb x (by simp)), Ch.told h2 (fun y hy => hb y (by simp [hy])) (by simp at hn; omega)]
/-- other cells than the links of these were written. -/
theorem Ch.keep {l l' : List Int} : ∀ {ts : List Int} {x : Int}, Ch l x ts → (∀ i, i ∈ ts → getA l' (i + 1) = getA l (i + 1)) → Ch l' x ts
  | [], _, h, _ => h
  | i :: is, _, h, k => ⟨h.1, h.2.1, by
    rw [k i (by simp)]
    exact Ch.keep h.2.2 fun y hy => k y (by simp [hy])⟩

/-- a worker alone: what lies on the stack; with what is in hand these are all things. -/
structure One (n : Nat) (l hs ts : List Int) : Prop where
  ok : SOk n l
  ch : Ch l (hIx (getA l 0)) ts
  all : (ts ++ hs).Perm ((List.range n).map fun i : Nat => (i : Int))

section
variable {n : Nat} {l hs ts : List Int}
theorem One.len (h : One n l hs ts) : ts.length + hs.length = n := by
  have := h.all.length_eq
  simpa using this
theorem One.mem (h : One n l hs ts) {i : Int} (hi : i ∈ ts ∨ i ∈ hs) : 0 ≤ i ∧ i < n := by
  have := h.all.subset (List.mem_append.2 hi)
  obtain ⟨m, hm, rfl⟩ := List.mem_map.1 this
  have := List.mem_range.1 hm
  omega
theorem One.nodup (h : One n l hs ts) : (ts ++ hs).Nodup := h.all.nodup_iff.2 (by
  refine List.pairwise_map.2 (List.nodup_range.imp fun {a b} hne e => hne ?_)
  have e : (a : Int) = b := e
  omega)
theorem One.told (h : One n l hs ts) (hn : n ≤ 1000) : chL l (fun i => i + 1) l.length (hIx (getA l 0)) = ts := h.ch.told (fun i hi => by
  have h1 := h.mem (.inl hi)
  obtain ⟨j, rfl⟩ := Int.eq_ofNat_of_zero_le h1.1
  have := h.ok.link j (by omega)
  omega) (by
  have h1 := h.len
  have h2 := h.ok.len
  omega)
/-- List tells what lies there. -/
theorem One.dom (h : SOk n l) (hf : ∀ i, N64 (getA l i)) (hn : n ≤ 1000) : (hIx (getA l 0) = -1 ∨ (0 ≤ hIx (getA l 0) ∧ hIx (getA l 0) < n)) ∧ ∀ i : Int, 0 ≤ i ∧ i < n → lkd (getA l (i + 1)) = -1 ∨ (0 ≤ lkd (getA l (i + 1)) ∧ lkd (getA l (i + 1)) < n) := by
  refine ⟨?_, fun i hi => ?_⟩
  · have h1 := hIx_in (v := getA l 0)
    have h2 := h.head.2
    unfold Ix0 at h1
    omega
  · obtain ⟨j, rfl⟩ := Int.eq_ofNat_of_zero_le hi.1
    have h1 := h.link j (by omega)
    unfold lkd
    rw [if_neg (by omega)]
    have h2 := hf ((j : Int) + 1)
    unfold N64 at h2
    omega
theorem One.has (h : One n l hs ts) : hasA l 0 = true := by
  have := h.ok.len
  rw [hasA_iff]
  omega

/-- the first thing is taken off. -/
theorem One.pop {i : Int} (h : One n l hs (i :: ts)) (hn : n ≤ 1000) : One n (casA l 0 (getA l 0) (newH (getA l 0) (nxOf (getA l (i + 1))))) (hs ++ [i]) ts := by
  obtain ⟨h1, h2, h3⟩ := h.ch
  have hb : casB l 0 (getA l 0) = true := by simp [casB, h.has]
  have hx : nxOf (getA l (i + 1)) = -1 ∨ (0 ≤ nxOf (getA l (i + 1)) ∧ nxOf (getA l (i + 1)) < n) := by
    cases ts with
    | nil => exact .inl h3
    | cons y ys =>
      right
      rw [h3.1]
      exact h.mem (.inl (by simp))
  have h0 : Ix0 (nxOf (getA l (i + 1))) := by unfold Ix0; omega
  have hl : ∀ y : Int, 0 ≤ y → getA (casA l 0 (getA l 0) (newH (getA l 0) (nxOf (getA l (i + 1))))) (y + 1) = getA l (y + 1) := fun y hy => by rw [getA_casA, if_neg (by omega)]
  refine ⟨h.ok.turn h0 (by omega), ?_, ?_⟩
  · rw [getA_casA, if_pos ⟨rfl, hb⟩, hIx_newH h0]
    exact h3.keep fun y hy => hl y (h.mem (.inl (by simp [hy]))).1
  · refine List.Perm.trans ?_ h.all
    rw [← List.append_assoc]
    exact (List.perm_append_singleton i (ts ++ hs))
/-- what is in hand is put on. -/
theorem One.push {i : Int} (h : One n l (hs ++ [i]) ts) (hn : n ≤ 1000) : One n (casA (setA l (i + 1) (hIx (getA l 0) + 1)) 0 (getA l 0) (newH (getA l 0) i)) hs (i :: ts) := by
  have hi := h.mem (i := i) (.inr (by simp))
  have hnd := h.nodup
  have hni : i ∉ ts := fun hm => by
    rw [List.nodup_append] at hnd
    exact hnd.2.2 i hm i (by simp) rfl
  have hxn := h.ok.head.2
  have hix := hIx_in (v := getA l 0)
  have h0 : getA (setA l (i + 1) (hIx (getA l 0) + 1)) 0 = getA l 0 := by rw [getA_setA, if_neg (by omega)]
  have hh : hasA (setA l (i + 1) (hIx (getA l 0) + 1)) 0 = true := by
    have := h.ok.len
    rw [hasA_iff, setA_length]
    omega
  have hb : casB (setA l (i + 1) (hIx (getA l 0) + 1)) 0 (getA l 0) = true := by simp [casB, hh, h0]
  have hi1 : hasA l (i + 1) = true := by
    have := h.ok.len
    rw [hasA_iff]
    omega
  have i0 : Ix0 i := by unfold Ix0; omega
  have hl : getA (casA (setA l (i + 1) (hIx (getA l 0) + 1)) 0 (getA l 0) (newH (getA l 0) i)) (i + 1) = hIx (getA l 0) + 1 := by
    rw [getA_casA, if_neg (by omega), getA_setA, if_pos ⟨rfl, hi1⟩]
  have hnx : nxOf (hIx (getA l 0) + 1) = hIx (getA l 0) := by
    unfold Ix0 at hix
    unfold nxOf
    rw [if_neg (by omega)]
    omega
  refine ⟨(h.ok.lay hxn hi.1).turn i0 hi.2, ?_, ?_⟩
  · rw [getA_casA, if_pos ⟨rfl, hb⟩, hIx_newH i0]
    refine ⟨rfl, hi.1, ?_⟩
    rw [hl, hnx]
    refine h.ch.keep fun y hy => ?_
    have hyi : y ≠ i := fun e => hni (e ▸ hy)
    have hy0 := (h.mem (.inl hy)).1
    rw [getA_casA, if_neg (by omega), getA_setA, if_neg (by omega)]
  · refine List.Perm.trans ?_ h.all
    rw [← List.append_assoc]
    exact (List.perm_append_singleton i (ts ++ hs)).symm
end

end Go.Proofs.Ytgdonejclggjlaa

/- Layer 8: a worker alone, act by act. -/
namespace Go.Proofs.Ytgdonejclggjlaa
open Go.RowKit
set_option maxRecDepth 100000

section
variable {St Pr : Type} {M : Gm St Pr}
theorem go_end {x : Pr × St} (h : M.ended x.1 = true) : ∀ n, M.go n x = x
  | 0 => rfl
  | n + 1 => by simp [Gm.go, h]
theorem go_one {x : Pr × St} (h : M.ended x.1 = false) (n : Nat) : M.go (n + 1) x = M.go n (M.step x.1 x.2) := by simp [Gm.go, h]
theorem go_add (b : Nat) : ∀ (a : Nat) (x : Pr × St), M.go (a + b) x = M.go b (M.go a x)
  | 0, x => by rw [Nat.zero_add]; rfl
  | a + 1, x => by
    rw [show a + 1 + b = (a + b) + 1 by omega]
    cases h : M.ended x.1 with
    | true => rw [go_end h, go_end h, go_end h]
    | false => rw [go_one h, go_one h, go_add b a]
end

section
variable {P : SP} {s : SSt} {j n : Nat} {l : List Bool} {i : Int} {hs ts : List Int}

theorem pop_one (hn : n ≤ 1000) (h : One n s.l (s.hs j) (i :: ts)) : ∃ s', (SM P).go 3 (⟨j, .popR, l⟩, s) = startS j l s' ∧ One n s'.l (s'.hs j) ts ∧ s'.hs j = s.hs j ++ [i] ∧ s'.wr j = s.wr j := by
  obtain ⟨h1, h2, h3⟩ := h.ch
  have hb : casB s.l 0 (getA s.l 0) = true := by simp [casB, h.has]
  refine ⟨({ s with l := casA s.l 0 (getA s.l 0) (newH (getA s.l 0) (nxOf (getA s.l (hIx (getA s.l 0) + 1)))), k := moreA s.l 0 (moreA s.l (hIx (getA s.l 0) + 1) (moreA s.l 0 s.k)) } : SSt).popped (P.has j) j (hIx (getA s.l 0)) true, ?_, ?_, ?_, ?_⟩
  · rw [go_one rfl 2]
    show (SM P).go 2 (if hIx (getA s.l 0) = -1 then _ else (⟨j, .popN (getA s.l 0), l⟩, { s with k := moreA s.l 0 s.k })) = _
    rw [if_neg (by omega), go_one rfl 1]
    show (SM P).go 1 (⟨j, .popT (getA s.l 0) (nxOf (getA s.l (hIx (getA s.l 0) + 1))), l⟩, _) = _
    rw [go_one rfl 0]
    show (SM P).go 0 (if casB s.l 0 (getA s.l 0) = true then _ else _) = _
    rw [if_pos hb]
    rfl
  · have h4 := h.pop hn
    show One n (casA s.l 0 (getA s.l 0) (newH (getA s.l 0) (nxOf (getA s.l (hIx (getA s.l 0) + 1))))) (updF s.hs j (s.hs j ++ [hIx (getA s.l 0)]) j) ts
    rw [updF_same, h1]
    exact h4
  · show updF s.hs j (s.hs j ++ [hIx (getA s.l 0)]) j = _
    rw [updF_same, h1]
  · show updF s.wr j (s.wr j || (!true && !s.ba j) || (true != decide (0 ≤ hIx (getA s.l 0)))) j = _
    rw [updF_same, decide_eq_true (by omega)]
    simp
theorem pop_none (h : One n s.l (s.hs j) []) : ∃ s', (SM P).go 1 (⟨j, .popR, l⟩, s) = startS j l s' ∧ One n s'.l (s'.hs j) [] ∧ s'.hs j = s.hs j ∧ s'.wr j = (s.wr j || !s.ba j) := by
  have h1 : hIx (getA s.l 0) = -1 := h.ch
  refine ⟨({ s with k := moreA s.l 0 s.k } : SSt).popped (P.has j) j (-1) false, ?_, ?_, ?_, ?_⟩
  · rw [go_one rfl 0]
    show (SM P).go 0 (if hIx (getA s.l 0) = -1 then _ else _) = _
    rw [if_pos h1]
    rfl
  · exact h
  · rfl
  · show updF s.wr j (s.wr j || (!false && !s.ba j) || (false != decide (0 ≤ (-1 : Int)))) j = _
    rw [updF_same]
    simp
theorem push_one (hn : n ≤ 1000) (e : s.hs j = hs ++ [i]) (h : One n s.l (s.hs j) ts) : ∃ s', (SM P).go 3 (⟨j, .pushR i, l⟩, s) = startS j l s' ∧ One n s'.l (s'.hs j) (i :: ts) ∧ s'.hs j = hs ∧ s'.wr j = s.wr j := by
  rw [e] at h
  have hi := h.mem (i := i) (.inr (by simp))
  have hxn := hIx_in (v := getA s.l 0)
  have hb : casB (setA s.l (i + 1) (hIx (getA s.l 0) + 1)) 0 (getA s.l 0) = true := by
    have h0 : getA (setA s.l (i + 1) (hIx (getA s.l 0) + 1)) 0 = getA s.l 0 := by rw [getA_setA, if_neg (by omega)]
    have hh : hasA (setA s.l (i + 1) (hIx (getA s.l 0) + 1)) 0 = true := by
      have := h.ok.len
      rw [hasA_iff, setA_length]
      omega
    simp [casB, hh, h0]
  refine ⟨({ s with l := casA (setA s.l (i + 1) (hIx (getA s.l 0) + 1)) 0 (getA s.l 0) (newH (getA s.l 0) i), k := moreA (setA s.l (i + 1) (hIx (getA s.l 0) + 1)) 0 (moreA s.l (i + 1) (moreA s.l 0 s.k)) } : SSt).pushed j, ?_, ?_, ?_, rfl⟩
  · rw [go_one rfl 2]
    show (SM P).go 2 (⟨j, .pushS i (getA s.l 0), l⟩, _) = _
    rw [go_one rfl 1]
    show (SM P).go 1 (⟨j, .pushT i (getA s.l 0), l⟩, _) = _
    rw [go_one rfl 0]
    show (SM P).go 0 (if casB (setA s.l (i + 1) (hIx (getA s.l 0) + 1)) 0 (getA s.l 0) = true then _ else _) = _
    rw [if_pos hb]
    rfl
  · show One n _ (updF s.hs j (s.hs j).dropLast j) (i :: ts)
    rw [updF_same, e, List.dropLast_concat]
    exact h.push hn
  · show updF s.hs j (s.hs j).dropLast j = _
    rw [updF_same, e, List.dropLast_concat]

/-- what is in hand and what lies there behind these acts. -/
def simA : List Bool → List Int → List Int → List Int × List Int
  | [], hs, ts => (hs, ts)
  | true :: l, hs, [] => simA l hs []
  | true :: l, hs, i :: ts => simA l (hs ++ [i]) ts
  | false :: l, hs, ts => match hs.getLast? with
    | none => simA l hs ts
    | some i => simA l hs.dropLast (i :: ts)
/-- no Pop of these finds none. -/
def finds : List Bool → List Int → List Int → Prop
  | [], _, _ => True
  | true :: _, _, [] => False
  | true :: l, hs, i :: ts => finds l (hs ++ [i]) ts
  | false :: l, hs, ts => match hs.getLast? with
    | none => finds l hs ts
    | some i => finds l hs.dropLast (i :: ts)

theorem run_alone (hn : n ≤ 1000) : ∀ (l : List Bool) (s : SSt) (ts : List Int), One n s.l (s.hs j) ts → ∃ m, m ≤ 3 * l.length ∧ ((SM P).go m (startS j l s)).1.m = .done ∧ One n ((SM P).go m (startS j l s)).2.l (((SM P).go m (startS j l s)).2.hs j) (simA l (s.hs j) ts).2 ∧
    ((SM P).go m (startS j l s)).2.hs j = (simA l (s.hs j) ts).1 ∧ (finds l (s.hs j) ts → ((SM P).go m (startS j l s)).2.wr j = s.wr j)
  | [], s, ts, h => ⟨0, Nat.zero_le _, rfl, h, rfl, fun _ => rfl⟩
  | true :: l, s, [], h => by
    obtain ⟨s', e, h1, h2, h3⟩ := pop_none (P := P) (l := l) (s := { s with bu := updF s.bu j true, ba := updF s.ba j false }) h
    obtain ⟨m, k1, k2, k3, k4, _⟩ := run_alone hn l s' [] h1
    have h2 : s'.hs j = s.hs j := h2
    have eg : (SM P).go (1 + m) (startS j (true :: l) s) = (SM P).go m (startS j l s') := by rw [go_add]; exact congrArg _ e
    rw [h2] at k3 k4
    refine ⟨1 + m, by simp; omega, ?_⟩
    rw [eg]
    exact ⟨k2, k3, k4, fun hf => hf.elim⟩
  | true :: l, s, i :: ts, h => by
    obtain ⟨s', e, h1, h2, h3⟩ := pop_one (P := P) (l := l) (s := { s with bu := updF s.bu j true, ba := updF s.ba j false }) hn h
    obtain ⟨m, k1, k2, k3, k4, k5⟩ := run_alone hn l s' ts h1
    have h2 : s'.hs j = s.hs j ++ [i] := h2
    have h3 : s'.wr j = s.wr j := h3
    have eg : (SM P).go (3 + m) (startS j (true :: l) s) = (SM P).go m (startS j l s') := by rw [go_add]; exact congrArg _ e
    rw [h2] at k3 k4 k5
    refine ⟨3 + m, by simp; omega, ?_⟩
    rw [eg]
    exact ⟨k2, k3, k4, fun hf => (k5 hf).trans h3⟩
  | false :: l, s, ts, h => by
    cases hl : (s.hs j).getLast? with
    | none =>
      have e : startS j (false :: l) s = startS j l s := by
        show (match (s.hs j).getLast? with | none => startS j l s | some i => (⟨j, .pushR i, l⟩, s)) = _
        rw [hl]
      have e2 : simA (false :: l) (s.hs j) ts = simA l (s.hs j) ts := by
        show (match (s.hs j).getLast? with | none => simA l (s.hs j) ts | some i => simA l (s.hs j).dropLast (i :: ts)) = _
        rw [hl]
      have e3 : finds (false :: l) (s.hs j) ts = finds l (s.hs j) ts := by
        show (match (s.hs j).getLast? with | none => finds l (s.hs j) ts | some i => finds l (s.hs j).dropLast (i :: ts)) = _
        rw [hl]
      obtain ⟨m, k1, k2⟩ := run_alone hn l s ts h
      rw [e, e2, e3]
      exact ⟨m, by simp; omega, k2⟩
    | some i =>
      have e : startS j (false :: l) s = (⟨j, .pushR i, l⟩, s) := by
        show (match (s.hs j).getLast? with | none => startS j l s | some i => (⟨j, .pushR i, l⟩, s)) = _
        rw [hl]
      have e2 : simA (false :: l) (s.hs j) ts = simA l (s.hs j).dropLast (i :: ts) := by
        show (match (s.hs j).getLast? with | none => simA l (s.hs j) ts | some i => simA l (s.hs j).dropLast (i :: ts)) = _
        rw [hl]
      have e3 : finds (false :: l) (s.hs j) ts = finds l (s.hs j).dropLast (i :: ts) := by
        show (match (s.hs j).getLast? with | none => finds l (s.hs j) ts | some i => finds l (s.hs j).dropLast (i :: ts)) = _
        rw [hl]
      have es : s.hs j = (s.hs j).dropLast ++ [i] := by
        obtain ⟨ys, hy⟩ := List.getLast?_eq_some_iff.1 hl
        rw [hy, List.dropLast_concat]
      obtain ⟨s', e', h1, h2, h3⟩ := push_one (P := P) (l := l) hn es h
      obtain ⟨m, k1, k2, k3, k4, k5⟩ := run_alone hn l s' (i :: ts) h1
      have eg : (SM P).go (3 + m) (startS j (false :: l) s) = (SM P).go m (startS j l s') := by rw [go_add, e]; exact congrArg _ e'
      rw [h2] at k3 k4 k5
      refine ⟨3 + m, by simp; omega, ?_⟩
      rw [eg, e2, e3]
      exact ⟨k2, k3, k4, fun hf => (k5 hf).trans h3⟩
end

end Go.Proofs.Ytgdonejclggjlaa

/- Layer 8: a task alone comes to its end. -/
namespace Go.Proofs.Ytgdonejclggjlaa
open Go.RowKit
set_option maxRecDepth 100000

section
variable {P : SP} {j n : Nat}

theorem runN_of_go {St Pr : Type} {M : Gm St Pr} {q : Pr} {s : St} {d m most : Nat} (hm : m ≤ most) (he : M.ended (M.go m (q, s)).1 = true) :
    (M.runN q s d most).1 = (M.go m (q, s)).1 ∧ (M.runN q s d most).2.1 = (M.go m (q, s)).2 := by
  obtain ⟨e1, e2⟩ := runN_go (M := M) m q s d
  have h : M.ended (M.runN q s d m).1 = true := by rw [e1]; exact he
  have e := runN_end h (most - m)
  rw [show m + (most - m) = most by omega] at e
  rw [e]
  exact ⟨e1, e2⟩
theorem ended_done {q : SPr} (h : q.m = .done) : (SM P).ended q = true := by
  show (match q.m with | .done => true | _ => false) = true
  rw [h]

/-- all these acts, by a worker alone. -/
theorem act_run (hn : n ≤ 1000) (l : List Bool) (s : SSt) (ts : List Int) (h : One n s.l (s.hs j) ts) (d most : Nat) (hm : 3 * l.length ≤ most) :
    (SM P).ended ((SM P).runN (startS j l s).1 (startS j l s).2 d most).1 = true ∧ One n ((SM P).runN (startS j l s).1 (startS j l s).2 d most).2.1.l (((SM P).runN (startS j l s).1 (startS j l s).2 d most).2.1.hs j) (simA l (s.hs j) ts).2 ∧
      ((SM P).runN (startS j l s).1 (startS j l s).2 d most).2.1.hs j = (simA l (s.hs j) ts).1 ∧ (finds l (s.hs j) ts → ((SM P).runN (startS j l s).1 (startS j l s).2 d most).2.1.wr j = s.wr j) := by
  obtain ⟨m, h1, h2, h3, h4, h5⟩ := run_alone (P := P) hn l s ts h
  obtain ⟨e1, e2⟩ := runN_of_go (M := SM P) (q := (startS j l s).1) (s := (startS j l s).2) (d := d) (most := most) (m := m) (by omega) (ended_done h2)
  rw [e1, e2]
  exact ⟨ended_done h2, h3, h4, h5⟩

/-- one act, with the mark b of a moment without things laid ahead of its steps. -/
theorem act_one (hn : n ≤ 1000) (pop b : Bool) (s : SSt) (ts : List Int) (h : One n s.l (s.hs j) ts) (hb : ts = [] → b = true) (d most : Nat) (hm : 3 ≤ most) :
    (SM P).ended ((SM P).runN (startS j [pop] s).1 ((startS j [pop] s).2.mark j 3 b) d most).1 = true ∧ One n ((SM P).runN (startS j [pop] s).1 ((startS j [pop] s).2.mark j 3 b) d most).2.1.l (((SM P).runN (startS j [pop] s).1 ((startS j [pop] s).2.mark j 3 b) d most).2.1.hs j) (simA [pop] (s.hs j) ts).2 ∧
      ((SM P).runN (startS j [pop] s).1 ((startS j [pop] s).2.mark j 3 b) d most).2.1.hs j = (simA [pop] (s.hs j) ts).1 ∧ ((SM P).runN (startS j [pop] s).1 ((startS j [pop] s).2.mark j 3 b) d most).2.1.wr j = s.wr j := by
  have key : ∀ (q : SPr) (s1 s2 : SSt) (m : Nat) (hs' ts' : List Int), m ≤ most → (SM P).go m (q, s1) = (⟨j, .done, []⟩, s2) → One n s2.l (s2.hs j) ts' → s2.hs j = hs' → s2.wr j = s.wr j →
      (SM P).ended ((SM P).runN q s1 d most).1 = true ∧ One n ((SM P).runN q s1 d most).2.1.l (((SM P).runN q s1 d most).2.1.hs j) ts' ∧ ((SM P).runN q s1 d most).2.1.hs j = hs' ∧ ((SM P).runN q s1 d most).2.1.wr j = s.wr j := by
    intro q s1 s2 m hs' ts' h1 h2 h3 h4 h5
    obtain ⟨e1, e2⟩ := runN_of_go (M := SM P) (q := q) (s := s1) (d := d) (most := most) (m := m) h1 (by rw [h2]; rfl)
    rw [e1, e2, h2]
    exact ⟨rfl, h3, h4, h5⟩
  cases pop with
  | true =>
    cases ts with
    | nil =>
      obtain ⟨s', e, h1, h2, h3⟩ := pop_none (P := P) (l := []) (s := ({ s with bu := updF s.bu j true, ba := updF s.ba j false } : SSt).mark j 3 b) h
      refine key _ _ s' 1 _ _ (by omega) e h1 h2 ?_
      rw [h3, hb rfl]
      show (s.wr j || !updF (updF s.ba j false) j true j) = s.wr j
      rw [updF_same]
      simp
    | cons i ts =>
      obtain ⟨s', e, h1, h2, h3⟩ := pop_one (P := P) (l := []) (s := ({ s with bu := updF s.bu j true, ba := updF s.ba j false } : SSt).mark j 3 b) hn h
      exact key _ _ s' 3 _ _ (by omega) e h1 h2 h3
  | false =>
    cases hl : (s.hs j).getLast? with
    | none =>
      have e : startS j [false] s = (⟨j, .done, []⟩, s) := by
        show (match (s.hs j).getLast? with | none => startS j [] s | some i => (⟨j, .pushR i, []⟩, s)) = _
        rw [hl]
        rfl
      have e2 : simA [false] (s.hs j) ts = (s.hs j, ts) := by
        show (match (s.hs j).getLast? with | none => simA [] (s.hs j) ts | some i => simA [] (s.hs j).dropLast (i :: ts)) = _
        rw [hl]
        rfl
      rw [e, e2]
      exact key _ _ (s.mark j 3 b) 0 _ _ (by omega) rfl h rfl rfl
    | some i =>
      have e : startS j [false] s = (⟨j, .pushR i, []⟩, s) := by
        show (match (s.hs j).getLast? with | none => startS j [] s | some i => (⟨j, .pushR i, []⟩, s)) = _
        rw [hl]
      have e2 : simA [false] (s.hs j) ts = ((s.hs j).dropLast, i :: ts) := by
        show (match (s.hs j).getLast? with | none => simA [] (s.hs j) ts | some i => simA [] (s.hs j).dropLast (i :: ts)) = _
        rw [hl]
        rfl
      have es : s.hs j = (s.hs j).dropLast ++ [i] := by
        obtain ⟨ys, hy⟩ := List.getLast?_eq_some_iff.1 hl
        rw [hy, List.dropLast_concat]
      obtain ⟨s', e', h1, h2, h3⟩ := push_one (P := P) (l := []) (s := s.mark j 3 b) hn es h
      rw [e, e2]
      exact key _ _ s' 3 _ _ (by omega) e' h1 h2 h3
end

end Go.Proofs.Ytgdonejclggjlaa

/- Layer 8: what is put on, taken, and put back. -/
namespace Go.Proofs.Ytgdonejclggjlaa
open Go.RowKit

/-- the numbers from 0 to m - 1. -/
def upto (m : Nat) : List Int := (List.range m).map fun i : Nat => (i : Int)
theorem upto_succ (m : Nat) : upto (m + 1) = upto m ++ [(m : Int)] := by unfold upto; rw [List.range_succ, List.map_append]; rfl
theorem upto_length (m : Nat) : (upto m).length = m := by simp [upto]

section
variable {n : Nat}
theorem simA_false (l : List Bool) (hs ts : List Int) (i : Int) : simA (false :: l) (hs ++ [i]) ts = simA l hs (i :: ts) := by
  show (match (hs ++ [i]).getLast? with | none => simA l (hs ++ [i]) ts | some i' => simA l (hs ++ [i]).dropLast (i' :: ts)) = _
  rw [List.getLast?_concat, List.dropLast_concat]
theorem finds_false (l : List Bool) (hs ts : List Int) (i : Int) : finds (false :: l) (hs ++ [i]) ts = finds l hs (i :: ts) := by
  show (match (hs ++ [i]).getLast? with | none => finds l (hs ++ [i]) ts | some i' => finds l (hs ++ [i]).dropLast (i' :: ts)) = _
  rw [List.getLast?_concat, List.dropLast_concat]

/-- the last m things in hand are put on. -/
theorem put_on : ∀ (m : Nat) (hs xs ts : List Int), xs.length = m → simA (List.replicate m false) (hs ++ xs) ts = (hs, xs ++ ts) ∧ finds (List.replicate m false) (hs ++ xs) ts
  | 0, hs, xs, ts, h => by
    obtain rfl := List.length_eq_zero_iff.1 h
    rw [List.append_nil]
    exact ⟨rfl, trivial⟩
  | m + 1, hs, xs, ts, h => by
    have hne : xs ≠ [] := fun e => by rw [e] at h; cases h
    obtain ⟨ys, y, rfl⟩ : ∃ ys y, xs = ys ++ [y] := ⟨xs.dropLast, xs.getLast hne, (List.dropLast_concat_getLast hne).symm⟩
    have hl : ys.length = m := by simp at h; omega
    obtain ⟨e1, e2⟩ := put_on m hs ys (y :: ts) hl
    rw [List.replicate_succ, ← List.append_assoc, simA_false, finds_false]
    exact ⟨by rw [e1]; simp, e2⟩
/-- the first m things are taken. -/
theorem taken : ∀ (m : Nat) (hs xs ts : List Int), xs.length = m → simA (List.replicate m true) hs (xs ++ ts) = (hs ++ xs, ts) ∧ finds (List.replicate m true) hs (xs ++ ts)
  | 0, hs, xs, ts, h => by
    obtain rfl := List.length_eq_zero_iff.1 h
    rw [List.append_nil]
    exact ⟨rfl, trivial⟩
  | m + 1, hs, xs, ts, h => by
    cases xs with
    | nil => cases h
    | cons x xs =>
      have hl : xs.length = m := by simp at h; omega
      obtain ⟨e1, e2⟩ := taken m (hs ++ [x]) xs ts hl
      rw [List.replicate_succ]
      show simA (List.replicate m true) (hs ++ [x]) (xs ++ ts) = _ ∧ finds (List.replicate m true) (hs ++ [x]) (xs ++ ts)
      exact ⟨by rw [e1]; simp, e2⟩

/-- a stack without things; all are in hand. -/
theorem one_start (k : Nat) : One k (List.replicate (k + 1) 0) (upto k) [] := by
  refine ⟨sok_zero k, ?_, List.Perm.refl _⟩
  show hIx (getA (List.replicate (k + 1) 0) 0) = -1
  rw [getA_zero]
  unfold hIx
  omega
/-- StackBack's three tasks: all put on; the first m taken; put back. -/
theorem back_all (k m : Nat) (hm : m ≤ k) :
    (simA (List.replicate k false) (upto k) [] = ([], upto k) ∧ finds (List.replicate k false) (upto k) []) ∧
      (simA (List.replicate m true) [] (upto k) = ((upto k).take m, (upto k).drop m) ∧ finds (List.replicate m true) [] (upto k)) ∧
      (simA (List.replicate m false) ((upto k).take m) ((upto k).drop m) = ([], upto k) ∧ finds (List.replicate m false) ((upto k).take m) ((upto k).drop m)) := by
  have hl := upto_length k
  have ht : ((upto k).take m).length = m := by rw [List.length_take, hl]; omega
  have h1 := put_on k [] (upto k) [] hl
  have h2 := taken m [] ((upto k).take m) ((upto k).drop m) ht
  have h3 := put_on m [] ((upto k).take m) ((upto k).drop m) ht
  rw [List.take_append_drop] at h2 h3
  simp only [List.nil_append, List.append_nil] at h1 h2 h3
  exact ⟨h1, h2, h3⟩
end

end Go.Proofs.Ytgdonejclggjlaa

/- Layer 8: what the law writes of its own leaves the state as it is. -/
namespace Go.Proofs.Ytgdonejclggjlaa
open Go.RowKit
set_option maxRecDepth 100000

section
variable {P : SP} {r : Nat} {s : SSt} {W W' : World} {K : List Nat}
/-- a block of a type that the state has not is apart from it. -/
theorem SI.apart_ty (h : SI P r s W) {g : Nat} {t : TypeId} {cs : Array Value} (l : Lies W g t cs) (h1 : t ≠ 101) (h2 : t ≠ 111) (h3 : t ≠ 34) (h4 : t ≠ 3) (h5 : t ≠ 31 ∨ ∀ j, j < P.nw → P.gp j = none) : g ∉ P.L ∧ ¬ Rw P.ws W g := by
  refine ⟨fun hm => ?_, fun hr => ?_⟩
  · rcases SP.L_mem.1 hm with rfl | rfl | ⟨j, hj, rfl⟩ | ⟨j, hj, hg⟩
    · exact l.unlike h.ar.head h1 rfl
    · exact l.unlike h.ar.body h2 rfl
    · obtain ⟨v, hl, _⟩ := h.wk j hj
      exact l.unlike hl h3 rfl
    · obtain ⟨v, hl, _⟩ := h.gt j g hj hg
      rcases h5 with h5 | h5
      · exact l.unlike hl h5 rfl
      · rw [h5 j hj] at hg
        cases hg
  · obtain ⟨_, cur, hl⟩ := h.rw hr
    exact l.unlike hl h4 rfl
theorem SI.bools (h : SI P r s W) {g : Nat} {cs : Array Value} (l : Lies W g 4 cs) : g ∉ P.L ∧ ¬ Rw P.ws W g := h.apart_ty l (by decide) (by decide) (by decide) (by decide) (.inl (by decide))
theorem SI.turns (h : SI P r s W) (t : Turns K W W') (hK : ∀ b, b ∈ K → b ∉ P.L ∧ ¬ Rw P.ws W b) : SI P r s W' :=
  h.keep (fun b hb hm => t.block b hb fun hk => by
    rcases hm with h1 | h1
    · exact (hK b hk).1 h1
    · exact (hK b hk).2 h1) t.size
/-- the cells that tell rows are as they were, and so are the rows. -/
theorem SI.rows_turns (hG : P.Good) (h : SI P r s W) (t : Turns K W W') (hK : ∀ b, b ∈ K → b ∉ P.L) {b : Nat} (q : Rw P.ws W' b) : Rw P.ws W b :=
  q.same fun x hx => t.cell (h.block_lt hx) fun hk => hK _ hk ((sm_ok P hG).cells x hx)
theorem Gm.Bx.turns (hG : P.Good) (h : SI P r s W) {b : Nat} {t : TypeId} {cs : Array Value} (x : (SM P).Bx W b t cs) (k : Turns K W W') (hK : ∀ c, c ∈ K → c ∉ P.L) (hb : b ∉ K) : (SM P).Bx W' b t cs :=
  ⟨x.l.turn k hb, x.out, fun q => x.row (SI.rows_turns hG h k hK q), x.ty, x.outX⟩
/-- a slice of bools of the law's own, behind what the machine wrote. -/
theorem VRow.fr {B : Nat} {v : Value} {vs : List Value} (h : SI P r s W) (x : VRow W B 4 v vs) (f : Fr P.L P.ws W W') : VRow W' B 4 v vs :=
  x.kept fun g hg => by
    obtain ⟨_, cur, hl⟩ := x.lies hg
    exact f.block g hl.lt (h.bools hl).1 (h.bools hl).2
/-- the state, behind a bool that was appended. -/
theorem SI.vrow {B : Nat} {v : Value} {vs : List Value} (h : SI P r s W) (x : VRow W B 4 v vs) (t : Turns v.ownBlock.toList W W') : SI P r s W' :=
  h.turns t fun b hb => by
    obtain ⟨_, cur, hl⟩ := x.lies (g := b) (by simpa using hb)
    exact h.bools hl
end

end Go.Proofs.Ytgdonejclggjlaa

/- Layer 8: StackBack's two first loops: what holds there. -/
namespace Go.Proofs.Ytgdonejclggjlaa
open Go.RowKit
set_option maxRecDepth 100000

/-- while the worker's hands are filled. -/
structure Fill (w0 : World) (P : SP) (bx B0 k m : Nat) (gt : Nat) (pv : Value) (W : World) : Prop where
  si : ∃ s, SI P 600 s W ∧ s.hs 0 = upto m ∧ s.l = List.replicate (k + 1) 0 ∧ s.wr 0 = false ∧ s.k = 0
  box : (SM P).Bx W bx 27 (stC P)
  puts : VRow W B0 4 pv ((List.replicate m false).map Value.bool)
  there : Lies W gt 4 #[]
  two : pv.ownBlock ≠ some gt
  le : m ≤ k
  be : Below B0 w0 W

/-- while the Pops are counted out. -/
structure There (w0 : World) (P : SP) (bx B0 k m0 j : Nat) (pv tv : Value) (W : World) : Prop where
  si : ∃ s, SI P 600 s W ∧ s.hs 0 = upto k ∧ s.l = List.replicate (k + 1) 0 ∧ s.wr 0 = false ∧ s.k = 0
  box : (SM P).Bx W bx 27 (stC P)
  puts : VRow W B0 4 pv ((List.replicate k false).map Value.bool)
  there : VRow W B0 4 tv ((List.replicate j true).map Value.bool)
  two : ∀ g, pv.ownBlock = some g → tv.ownBlock ≠ some g
  le : j ≤ m0
  few : m0 ≤ k
  be : Below B0 w0 W
theorem There.next {w0 : World} {P : SP} {bx B0 k m0 j : Nat} {pv tv tv' : Value} {W W' : World} (hG : P.Good) (hB0 : B0 ≤ w0.heap.size) (h : There w0 P bx B0 k m0 j pv tv W) (hj : j < m0) (x : VRow W' B0 4 tv' ((List.replicate j true).map Value.bool ++ [.bool true])) (t : Turns tv.ownBlock.toList W W') : There w0 P bx B0 k m0 (j + 1) pv tv' W' := by
  obtain ⟨s, hi, hs⟩ := h.si
  have hK : ∀ b, b ∈ tv.ownBlock.toList → b ∉ P.L ∧ ¬ Rw P.ws W b := fun b hb => by
    obtain ⟨_, cur, hl⟩ := h.there.lies (g := b) (by simpa using hb)
    exact hi.bools hl
  have hp : VRow W' B0 4 pv ((List.replicate k false).map Value.bool) := h.puts.turns t fun g hg hk => h.two g hg (by simpa using hk)
  refine ⟨⟨s, hi.vrow h.there t, hs⟩, Gm.Bx.turns hG hi h.box t (fun b hb => (hK b hb).1) (fun hb => ?_), hp, ?_, fun g hg e => ?_, by omega, h.few, h.be.trans (t.below (fun b hb => (h.there.lies (by simpa using hb)).1) (Nat.le_trans hB0 h.be.size))⟩
  · obtain ⟨_, cur, hl⟩ := h.there.lies (g := bx) (by simpa using hb)
    exact hl.unlike h.box.l (by decide) rfl
  · rw [List.replicate_succ', List.map_append]
    exact x
  · have hk := h.few
    have c1 := hp.own.cells (g := g) hg 0 (.bool false) (by rw [List.getElem?_map, List.getElem?_replicate, if_pos (by omega)]; rfl)
    have c2 := x.own.cells (g := g) e 0 (.bool true) (by
      cases j with
      | zero => rfl
      | succ j => simp [List.replicate_succ])
    rw [c1] at c2
    injection c2 with c2
    injection c2 with c2
    cases c2

end Go.Proofs.Ytgdonejclggjlaa

/- Slices of slices. (Parted out of Q18.) -/
namespace Go.Proofs.Ytgdonejclggjlaa
open Go.RowKit Go.ChangeShapes Go.WideShapes

/-- where the first k of a slice lie, and the others. -/
theorem slice_to {t : TypeId} {e : TypeId} (ht : Try.prog.underlying t = some (.slice e)) (h1 : (Try.prog.info? e).map (·.size) = some 1) (A : Option Addr) (n cp k : Nat) (hk : k ≤ cp) (W : World) :
    (Instr.sliceAt t (.slice A n cp) none (some (.int .i64 (k : Int))) none).run Try.prog W = .ok (.slice (if cp = 0 then A else A.map (·.add 0)) k cp) W := by
  obtain ⟨i, hi, hz⟩ := Option.map_eq_some_iff.1 h1
  simp [Instr.sliceAt, Instr.slice, run_underlying ht, Instr.sliceBounds, Instr.sliceBound, asIntOf, sizeOf, typeInfo, hi]
  intro h; omega
theorem slice_from {t : TypeId} {e : TypeId} (ht : Try.prog.underlying t = some (.slice e)) (h1 : (Try.prog.info? e).map (·.size) = some 1) (A : Option Addr) (n cp k : Nat) (hk : k ≤ n) (W : World) :
    (Instr.sliceAt t (.slice A n cp) (some (.int .i64 (k : Int))) none none).run Try.prog W = .ok (.slice (if cp = k then A else A.map (·.add k)) (n - k) (cp - k)) W := by
  obtain ⟨i, hi, hz⟩ := Option.map_eq_some_iff.1 h1
  simp [Instr.sliceAt, Instr.slice, run_underlying ht, Instr.sliceBounds, Instr.sliceBound, asIntOf, sizeOf, typeInfo, hi, hz]
  intro h; omega

theorem add_zero' (a : Addr) : a.add 0 = a := by simp [Addr.add]
section
variable {w : World} {A : Option Addr} {n k cp : Nat} {xs : List Int}
theorem Row.take (h : Row w .i64 A n xs) (hk : k ≤ n) (A' : Option Addr) (hA : A' = (if cp = 0 then A else A.map (·.add 0))) : Row w .i64 A' k (xs.take k) := by
  have e : A' = A := by
    rw [hA]
    split
    · rfl
    · cases A <;> simp [add_zero']
  subst e
  have hl := h.len
  refine ⟨by simp; omega, by have := h.most; omega, fun x hx => h.wf x (List.mem_of_mem_take hx), fun hn => ?_⟩
  obtain ⟨a, e, h1, h2⟩ := h.at_ (by omega)
  refine ⟨a, e, h1, fun i hi => ?_⟩
  rw [h2 i (by omega)]
  simp [List.getD, hi]
theorem Row.drop (h : Row w .i64 A n xs) (hk : k ≤ n) (hcp : n ≤ cp) (A' : Option Addr) (hA : A' = (if cp = k then A else A.map (·.add k))) : Row w .i64 A' (n - k) (xs.drop k) := by
  have hl := h.len
  refine ⟨by simp; omega, by have := h.most; omega, fun x hx => h.wf x (List.mem_of_mem_drop hx), fun hn => ?_⟩
  obtain ⟨a, e, h1, h2⟩ := h.at_ (by omega)
  subst e
  rw [if_neg (by omega)] at hA
  refine ⟨a.add k, by rw [hA]; rfl, by rw [add_block]; exact h1, fun i hi => ?_⟩
  rw [Go.Deep.add_add, h2 (k + i) (by omega)]
  simp [List.getD, List.getElem?_drop]
end

end Go.Proofs.Ytgdonejclggjlaa

/- Layer 8: StackBack's last loop: what holds there. -/
namespace Go.Proofs.Ytgdonejclggjlaa
open Go.RowKit Go.ChangeShapes Go.WideShapes
set_option maxRecDepth 100000

theorem made_bools (n : Nat) : madeCells #[.bool false] n = ((List.replicate n false).map Value.bool).toArray := by
  apply Array.ext
  · simp [madeCells]
  · intro i h1 h2
    simp [madeCells, Nat.mod_one]
theorem make_bools (n : Nat) (hn : n ≤ 1048576) (W : World) :
    (Instr.makeSlice 22 (.int .i64 (n : Int)) (.int .i64 (n : Int))).run Try.prog W = .ok (.slice (some ⟨W.heap.size, 0, none⟩) n n) (W.alloc (.cells ((List.replicate n false).map Value.bool).toArray 4)) := by
  obtain ⟨i, hi, hz, hs, hb⟩ := info_parts (P := Try.prog) (t := 4) (z := .bool false) (s := 1) (b := 1) (by kernel_rfl)
  have hr := run_make (P := Try.prog) W 22 4 i _ Try.underlying22 hi hz .i64 .i64 n n (by omega) (by omega) (by rw [hb]; omega) (by omega)
  simp only [Int.toNat_natCast, hs, Nat.mul_one] at hr
  rw [hr, ← made_bools]
  rfl
theorem VRow.made (W : World) {B : Nat} (n : Nat) (hn : n ≤ 1000) (hB : B ≤ W.heap.size) : VRow (W.alloc (.cells ((List.replicate n false).map Value.bool).toArray 4)) B 4 (.slice (some ⟨W.heap.size, 0, none⟩) n n) ((List.replicate n false).map Value.bool) :=
  ⟨⟨by simp, .inr ⟨W.heap.size, n, _, by simp, hB, heap_alloc_new W _, by simp, by simp only [maxLen]; omega, by simp, by simp⟩⟩⟩

theorem Fr.past {L : List Nat} {ws : List Addr} {a w w' : World} {t : Nat} (h : Fr L ws a w) (k : Fr (t :: L) ws w w') (ht : a.heap.size ≤ t) : Fr L ws a w' :=
  ⟨k.os.trans h.os, k.tape.trans h.tape, k.output.trans h.output, Nat.le_trans h.size k.size,
   fun b hb hn hr => (k.block b (Nat.lt_of_lt_of_le hb h.size) (fun hm => by
     rcases List.mem_cons.1 hm with h1 | h1
     · omega
     · exact hn h1) (fun q => hr (h.rows b hb q))).trans (h.block b hb hn hr),
   fun b hb q => h.rows b hb (k.rows b (Nat.lt_of_lt_of_le hb h.size) q)⟩

section
variable {P : SP} {r B : Nat} {s : SSt} {W W' : World} {v : Value} {xs : List Int} {K : List Nat}
theorem SI.down {P : SP} {s : SSt} {W : World} (hG : P.Good) {r r' : Nat} (h : SI P r s W) (k : r' ≤ r) : SI P r' s W := by
  obtain ⟨d, rfl⟩ : ∃ d, r = r' + d := ⟨r - r', by omega⟩
  clear k
  induction d with
  | zero => exact h
  | succ d ih => exact ih ((sm_ok P hG).less _ _ _ h)

/-- a list that the stack told: the machine never writes it. -/
structure LRow (P : SP) (B : Nat) (v : Value) (xs : List Int) (W : World) : Prop where
  row : IRow W B v xs
  out : ∀ g, v.ownBlock = some g → g ∉ P.L ∧ ¬ Rw P.ws W g
theorem LRow.fr (h : LRow P B v xs W) (f : Fr P.L P.ws W W') : LRow P B v xs W' :=
  ⟨h.row.kept fun g hg => f.block g (h.row.lt g hg).2 (h.out g hg).1 (h.out g hg).2, fun g hg => ⟨(h.out g hg).1, f.row (h.row.lt g hg).2 (h.out g hg).2⟩⟩
theorem LRow.turns (hG : P.Good) (hi : SI P r s W) (h : LRow P B v xs W) (t : Turns K W W') (hK : ∀ b, b ∈ K → b ∉ P.L) (hn : ∀ g, v.ownBlock = some g → g ∉ K) : LRow P B v xs W' :=
  ⟨h.row.kept fun g hg => t.block g (h.row.lt g hg).2 (hn g hg), fun g hg => ⟨(h.out g hg).1, fun q => (h.out g hg).2 (SI.rows_turns hG hi t hK q)⟩⟩
theorem LRow.new (hG : P.Good) (hi : SI P r s W) (h : IRow W' W.heap.size v xs) (b : Below W.heap.size W W') (hB : B ≤ W.heap.size) : LRow P B v xs W' := by
  have t : Turns [] W W' := Turns.of_below b (Nat.le_refl _)
  refine ⟨h.less hB, fun g hg => ⟨fun hm => ?_, fun q => ?_⟩⟩
  · have h1 := (h.lt g hg).1
    have h2 := ((sm_ok P hG).okw _ _ _ hi).lt g hm
    omega
  · have h1 := (h.lt g hg).1
    obtain ⟨_, cur, hl⟩ := hi.rw (SI.rows_turns hG hi t (by simp) q)
    have := hl.lt
    omega
theorem VRow.frE {E : TypeId} {vs : List Value} (h : SI P r s W) (x : VRow W B E v vs) (f : Fr P.L P.ws W W') (h1 : E ≠ 101) (h2 : E ≠ 111) (h3 : E ≠ 34) (h4 : E ≠ 3) (h5 : E ≠ 31 ∨ ∀ j, j < P.nw → P.gp j = none) : VRow W' B E v vs :=
  x.kept fun g hg => by
    obtain ⟨_, cur, hl⟩ := x.lies hg
    have := h.apart_ty hl h1 h2 h3 h4 h5
    exact f.block g hl.lt this.1 this.2
end

/-- StackBack's three tasks: their acts; what is in hand, and what lies on the stack, ahead of each. -/
def bsAt (k m0 : Nat) : Nat → List Bool
  | 0 => List.replicate k false
  | 1 => List.replicate m0 true
  | _ => List.replicate m0 false
def hsAt (k m0 : Nat) : Nat → List Int
  | 0 => upto k
  | 2 => (upto k).take m0
  | _ => []
def tsAt (k m0 : Nat) : Nat → List Int
  | 0 => []
  | 2 => (upto k).drop m0
  | _ => upto k
theorem back_step {k m0 j : Nat} (hm : m0 ≤ k) (hj : j < 3) : simA (bsAt k m0 j) (hsAt k m0 j) (tsAt k m0 j) = (hsAt k m0 (j + 1), tsAt k m0 (j + 1)) ∧ finds (bsAt k m0 j) (hsAt k m0 j) (tsAt k m0 j) := by
  obtain ⟨h0, h1, h2⟩ := back_all k m0 hm
  rcases (by omega : j = 0 ∨ j = 1 ∨ j = 2) with rfl | rfl | rfl
  · exact h0
  · exact h1
  · exact h2
theorem bsAt_len {k m0 j : Nat} (hm : m0 ≤ k) : (bsAt k m0 j).length ≤ k := by
  unfold bsAt
  split <;> simp <;> omega
def slAt (pv tv kv : Value) : Nat → Value
  | 0 => pv
  | 1 => tv
  | _ => kv

/-- in StackBack's last loop: j tasks are through. -/
structure Bk (w0 : World) (P : SP) (bx B0 k m0 g3 : Nat) (pv tv kv : Value) (j : Nat) (lv : Value) (W : World) : Prop where
  si : ∃ s, SI P (200 * (3 - j)) s W ∧ One k s.l (s.hs 0) (tsAt k m0 j) ∧ s.hs 0 = hsAt k m0 j ∧ s.wr 0 = false
  box : (SM P).Bx W bx 27 (stC P)
  sl : ∀ i, i < 3 → VRow W B0 4 (slAt pv tv kv i) ((bsAt k m0 i).map Value.bool)
  all : Lies W g3 22 #[pv, tv, kv]
  lists : ∃ vs, VRow W B0 31 lv vs ∧ vs.length = j ∧ ∀ i u, vs[i]? = some u → LRow P B0 u (tsAt k m0 (i + 1)) W
  le : j ≤ 3
  be : Below B0 w0 W

theorem Bk.zero {w0 : World} {P : SP} {bx B0 k m0 : Nat} {pv tv : Value} {W : World} (hG : P.Good) (h : There w0 P bx B0 k m0 m0 pv tv W) (hB : B0 ≤ W.heap.size) (hm : m0 ≤ 1000) :
    Bk w0 P bx B0 k m0 (W.heap.size + 1 + 1) pv tv (.slice (some ⟨W.heap.size, 0, none⟩) m0 m0) 0 (.slice (some ⟨W.heap.size + 1, 0, none⟩) 0 0) (((W.alloc (.cells ((List.replicate m0 false).map Value.bool).toArray 4)).alloc (.cells #[] 31)).alloc (.cells #[pv, tv, .slice (some ⟨W.heap.size, 0, none⟩) m0 m0] 22)) := by
  obtain ⟨s, hi, e1, e2, e3, e4⟩ := h.si
  obtain ⟨X1, hX1⟩ : ∃ X1, W.alloc (.cells ((List.replicate m0 false).map Value.bool).toArray 4) = X1 := ⟨_, rfl⟩
  have v0 : VRow X1 B0 4 (.slice (some ⟨W.heap.size, 0, none⟩) m0 m0) ((List.replicate m0 false).map Value.bool) := by rw [← hX1]; exact VRow.made W m0 hm hB
  have k1 : Turns [] W X1 := by rw [← hX1]; exact (Turns.refl _ _).alloc _
  have z1 : X1.heap.size = W.heap.size + 1 := by rw [← hX1]; simp
  rw [hX1]
  obtain ⟨X2, hX2⟩ : ∃ X2, X1.alloc (.cells #[] 31) = X2 := ⟨_, rfl⟩
  have v1 : VRow X2 B0 31 (.slice (some ⟨W.heap.size + 1, 0, none⟩) 0 0) [] := by rw [← hX2, ← z1]; exact VRow.empty X1 31 (by omega)
  have k2 : Turns [] X1 X2 := by rw [← hX2]; exact (Turns.refl _ _).alloc _
  have z2 : X2.heap.size = W.heap.size + 1 + 1 := by rw [← hX2]; simp [z1]
  rw [hX2]
  have k3 : Turns [] X2 (X2.alloc (.cells #[pv, tv, .slice (some ⟨W.heap.size, 0, none⟩) m0 m0] 22)) := (Turns.refl _ _).alloc _
  have kk := (k1.trans k2).trans k3
  refine ⟨⟨s, hi.turns kk (by simp), ?_, e1, e3⟩, Gm.Bx.turns hG hi h.box kk (by simp) (by simp), fun i hi3 => ?_, Lies.new_of _ _ z2, ⟨[], v1.turns k3 (by simp), rfl, fun i u hu => by simp at hu⟩, by omega, h.be.trans (kk.below (by simp) hB)⟩
  · rw [e2, e1]; exact one_start k
  · rcases (by omega : i = 0 ∨ i = 1 ∨ i = 2) with rfl | rfl | rfl
    · exact h.puts.turns kk (by simp)
    · exact h.there.turns kk (by simp)
    · exact v0.turns (k2.trans k3) (by simp)

theorem Bk.next {w0 : World} {P : SP} {bx B0 k m0 g3 j : Nat} {pv tv kv lv lv' u : Value} {W W9 W10 W11 : World} {vs : List Value} {s' : SSt} (hG : P.Good) (hgp : ∀ j, j < P.nw → P.gp j = none) (hPB : B0 ≤ P.B) (h : Bk w0 P bx B0 k m0 g3 pv tv kv j lv W) (hj : j < 3) (hB : B0 ≤ W.heap.size)
    (f : Fr P.L P.ws W W9) (hi : SI P (200 * (3 - (j + 1))) s' W9) (ho : One k s'.l (s'.hs 0) (tsAt k m0 (j + 1))) (hh : s'.hs 0 = hsAt k m0 (j + 1)) (hw : s'.wr 0 = false)
    (b : Below W9.heap.size W9 W10) (hr : IRow W10 W9.heap.size u (tsAt k m0 (j + 1)))
    (hvs : VRow W B0 31 lv vs ∧ vs.length = j ∧ ∀ i u, vs[i]? = some u → LRow P B0 u (tsAt k m0 (i + 1)) W)
    (x : VRow W11 B0 31 lv' (vs ++ [u])) (t : Turns lv.ownBlock.toList W10 W11) : Bk w0 P bx B0 k m0 g3 pv tv kv (j + 1) lv' W11 := by
  obtain ⟨s, hi0, _⟩ := h.si
  have ap : ∀ {X : World} {r : Nat} {sx : SSt} {g : Nat} {cs : Array Value}, SI P r sx X → Lies X g 31 cs → g ∉ P.L ∧ ¬ Rw P.ws X g := fun h1 h2 => h1.apart_ty h2 (by decide) (by decide) (by decide) (by decide) (.inr hgp)
  have ab : ∀ {X : World} {r : Nat} {sx : SSt} {g : Nat} {cs : Array Value}, SI P r sx X → Lies X g 22 cs → g ∉ P.L ∧ ¬ Rw P.ws X g := fun h1 h2 => h1.apart_ty h2 (by decide) (by decide) (by decide) (by decide) (.inl (by decide))
  have t10 : Turns [] W9 W10 := Turns.of_below b (Nat.le_refl _)
  have hl9 : VRow W9 B0 31 lv vs := hvs.1.frE hi0 f (by decide) (by decide) (by decide) (by decide) (.inr hgp)
  have hl10 := hl9.turns t10 (by simp)
  have hi10 := hi.turns t10 (by simp)
  have hK : ∀ b, b ∈ lv.ownBlock.toList → b ∉ P.L ∧ ¬ Rw P.ws W10 b := fun b hb => by
    obtain ⟨_, cur, hl⟩ := hl10.lies (g := b) (by simpa using hb)
    exact ap hi10 hl
  have nL : ∀ {g : Nat} {ty : TypeId} {cs : Array Value}, Lies W10 g ty cs → ty ≠ 31 → g ∉ lv.ownBlock.toList := fun hl hne hm => by
    obtain ⟨_, cur, hl2⟩ := hl10.lies (g := _) (by simpa using hm)
    exact hl.unlike hl2 hne rfl
  have f10 : Fr P.L P.ws W W10 := f.trans (((sm_ok P hG).okw _ _ _ hi).fr (sm_ok P hG) t10)
  have box10 := h.box.mv f10.mv
  have irow : ∀ {g : Nat} {v : Value} {xs : List Int}, IRow W10 B0 v xs → v.ownBlock = some g → g ∉ lv.ownBlock.toList := fun hr hg => by
    rcases hr.own.2 with ⟨rfl, _⟩ | ⟨g', cap, cur, rfl, _, hb, _⟩
    · cases hg
    · simp [Value.ownBlock] at hg
      subst hg
      exact nL (ty := 3) hb (by decide)
  refine ⟨⟨s', hi10.turns t hK, ho, hh, hw⟩, Gm.Bx.turns hG hi10 box10 t (fun b hb => (hK b hb).1) (nL box10.l (by decide)), fun i hi3 => ?_, ?_, ⟨vs ++ [u], x, by simp [hvs.2.1], fun i y hy => ?_⟩, by omega, ?_⟩
  · have h1 := (h.sl i hi3).fr hi0 f10
    refine h1.turns t fun g hg => ?_
    obtain ⟨_, cur, hl⟩ := h1.lies hg
    exact nL hl (by decide)
  · have h1 := f10.lies h.all (ab hi0 h.all).1 (ab hi0 h.all).2
    exact h1.turn t (nL h1 (by decide))
  · by_cases hy2 : i < vs.length
    · rw [List.getElem?_append_left hy2] at hy
      have h1 := (hvs.2.2 i y hy).fr f10
      exact h1.turns hG hi10 t (fun b hb => (hK b hb).1) (fun g hg => irow h1.row hg)
    · rw [List.getElem?_append_right (by omega)] at hy
      have hi0' : i = vs.length := by
        rcases Nat.lt_or_ge vs.length i with h1 | h1
        · rw [List.getElem?_eq_none (by simp; omega)] at hy; cases hy
        · omega
      rw [hi0', Nat.sub_self] at hy
      simp at hy
      subst hy
      have h1 : LRow P B0 u (tsAt k m0 (j + 1)) W10 := LRow.new hG hi hr b (Nat.le_trans hB f.size)
      rw [hi0', hvs.2.1]
      exact h1.turns hG hi10 t (fun b hb => (hK b hb).1) (fun g hg => irow h1.row hg)
  · have s9 := Nat.le_trans hB f.size
    exact ((h.be.trans ((hi0.below hG (fun b hb => .inl hb) f).mono hPB)).trans (b.mono s9)).trans (t.below (fun b hb => (hl10.lies (by simpa using hb)).1) (Nat.le_trans s9 b.size))

theorem ints_info8 : (Try.prog.info? 31).map (fun i => (i.zero, i.size, i.bytes)) = some (some (.slice none 0 0), 1, 24) := by kernel_rfl

end Go.Proofs.Ytgdonejclggjlaa

/- Slices of bools that are handed in. -/
namespace Go.Proofs.Ytgdonejclggjlaa
open Go.RowKit Go.ChangeShapes Go.WideShapes

/-- bools that are handed in, as they lie in the world. -/
structure BRow (w : World) (A : Option Addr) (bs : List Bool) : Prop where
  at_ : 0 < bs.length → ∃ a, A = some a ∧ a.block < w.heap.size ∧ ∀ i, i < bs.length → w.cell? (a.add i) = some (.bool (bs.getD i false))
theorem BRow.keep {w w' : World} {A : Option Addr} {bs : List Bool} (h : BRow w A bs) (k : Below w.heap.size w w') : BRow w' A bs :=
  ⟨fun hn => by
    obtain ⟨a, e, hb, hc⟩ := h.at_ hn
    exact ⟨a, e, Nat.lt_of_lt_of_le hb k.size, fun i hi => (k.cell (by rw [add_block]; exact hb)).trans (hc i hi)⟩⟩


theorem BRow.opened {H : Type} {enc : TypeId × Value → H} {P : Program} {w : World} {base : Nat} {held : Bool} {t e : TypeId} {a : Option Addr} {n c : Nat} {d : DataW H} {p : List MemPlace} (ht : P.underlying t = some (.slice e)) (he : P.underlying e = some .bool) (hc : P.cellsOf e = 1)
    (h : DataW.Trod enc P w base (fun _ => true) held t (.slice a n c) d p) : ∃ bs, bs.length = n ∧ BRow w a bs := by
  obtain ⟨fuel, hf⟩ := h
  rcases Go.Deep.open_bools ht he hc hf with ⟨hcs, _⟩ | ⟨x, l, cp, B, hcs, _, hl, hm, _, hcell⟩
  · simp [Value.cells] at hcs
    obtain ⟨rfl, rfl, rfl⟩ := hcs
    exact ⟨[], rfl, ⟨fun h => by simp at h⟩⟩
  · simp [Value.cells] at hcs
    obtain ⟨rfl, rfl, rfl⟩ := hcs
    refine ⟨(List.range n).map B, by simp, ⟨fun hn => ?_⟩⟩
    have hn : 0 < n := by simpa using hn
    have h0 := cell_block (hcell 0 (by omega))
    rw [add_block] at h0
    refine ⟨x, rfl, h0, fun i hi => ?_⟩
    have hi : i < n := by simpa using hi
    rw [hcell i (by omega)]
    simp [List.getD, hi]

/-- rows of bools that are handed in. -/
structure BGrid (w : World) (A : Option Addr) (bss : List (List Bool)) : Prop where
  at_ : 0 < bss.length → ∃ a, A = some a ∧ a.block < w.heap.size ∧ ∀ i, i < bss.length → ∃ A' c, w.cell? (a.add i) = some (.slice A' (bss.getD i []).length c) ∧ (bss.getD i []).length ≤ c ∧ (bss.getD i []).length ≤ maxLen ∧ BRow w A' (bss.getD i [])
theorem BGrid.keep {w w' : World} {A : Option Addr} {bss : List (List Bool)} (h : BGrid w A bss) (k : Below w.heap.size w w') : BGrid w' A bss :=
  ⟨fun hn => by
    obtain ⟨a, e, hb, hc⟩ := h.at_ hn
    refine ⟨a, e, Nat.lt_of_lt_of_le hb k.size, fun i hi => ?_⟩
    obtain ⟨A', c, h1, h2, h3, h4⟩ := hc i hi
    exact ⟨A', c, (k.cell (by rw [add_block]; exact hb)).trans h1, h2, h3, h4.keep k⟩⟩
theorem BGrid.opened {H : Type} {enc : TypeId × Value → H} {P : Program} {w : World} {base : Nat} {held : Bool} {t e q : TypeId} {a : Option Addr} {n c : Nat} {d : DataW H} {p : List MemPlace} (ht : P.underlying t = some (.slice e)) (he : P.underlying e = some (.slice q)) (hq : P.underlying q = some .bool) (ce : P.cellsOf e = 1) (cq : P.cellsOf q = 1)
    (h : DataW.Trod enc P w base (fun _ => true) held t (.slice a n c) d p) : ∃ bss, bss.length = n ∧ BGrid w a bss := by
  obtain ⟨fuel, hf⟩ := h
  rcases Go.Deep.open_bool_rows ht he hq ce cq hf with ⟨hcs, _⟩ | ⟨x, l, cp, A, L, C, B, hcs, _, hl, hm, _, hr⟩
  · simp [Value.cells] at hcs
    obtain ⟨rfl, rfl, rfl⟩ := hcs
    exact ⟨[], rfl, ⟨fun h => by simp at h⟩⟩
  · simp [Value.cells] at hcs
    obtain ⟨rfl, rfl, rfl⟩ := hcs
    refine ⟨(List.range n).map fun r => (List.range (L r)).map (B r), by simp, ⟨fun hn => ?_⟩⟩
    have hn : 0 < n := by simpa using hn
    have h0 := cell_block (hr 0 (by omega)).1
    rw [add_block] at h0
    refine ⟨x, rfl, h0, fun i hi => ?_⟩
    have hi : i < n := by simpa using hi
    obtain ⟨h1, h2, h3, h4, h5⟩ := hr i (by omega)
    have e1 : (((List.range n).map fun r => (List.range (L r)).map (B r)).getD i []) = (List.range (L i)).map (B i) := by simp [List.getD, hi]
    rw [e1]
    refine ⟨A i, C i, by simpa using h1, by simpa using h2, by simp; omega, ⟨fun hp => ?_⟩⟩
    have hp : 0 < L i := by simpa using hp
    cases hA : A i with
    | none => have := h4 hA; omega
    | some a' =>
      obtain ⟨_, hc⟩ := h5 a' hA
      have h6 := cell_block (hc 0 (by omega))
      rw [add_block] at h6
      refine ⟨a', rfl, h6, fun k hk => ?_⟩
      have hk : k < L i := by simpa using hk
      rw [hc k (by omega)]
      simp [List.getD, hk]

end Go.Proofs.Ytgdonejclggjlaa

/- Layer 8: StackAlone's rounds: what holds there. -/
namespace Go.Proofs.Ytgdonejclggjlaa
open Go.RowKit Go.ChangeShapes Go.WideShapes
set_option maxRecDepth 100000

/-- the same machine; the law may write these blocks between steps. -/
def SP.with (P : SP) (ex : List Nat) : SP := { P with ex := ex }
section
variable {P : SP} {r B : Nat} {s : SSt} {W W' : World} {K ex : List Nat}
theorem SP.Good.with (h : P.Good) (ex : List Nat) : (P.with ex).Good := ⟨h.low, h.inj, h.ginj, h.sep, h.few⟩
theorem SI.with (h : SI P r s W) (he : ∀ b, b ∈ ex → b < W.heap.size) : SI (P.with ex) r s W := ⟨h.ar, h.room, h.ok, h.wk, h.gt, h.hb, h.size, h.apart, he⟩
theorem SI.bare (h : SI (P.with ex) r s W) (hP : P.ex = []) : SI P r s W := ⟨h.ar, h.room, h.ok, h.wk, h.gt, h.hb, h.size, h.apart, fun b hb => by rw [hP] at hb; cases hb⟩

/-- a slice that the document's answer told. -/
structure MRow (P : SP) (mv : Value) (ts : List Int) (hv : Value) (W : World) : Prop where
  at_ : ∃ A cp, mv = .slice A ts.length cp ∧ ts.length ≤ cp ∧ Row W .i64 A ts.length ts ∧ ∀ a, A = some a → 0 < ts.length → a.block ∉ P.L ∧ ¬ Rw P.ws W a.block ∧ hv.ownBlock ≠ some a.block
theorem Row.heap {w w' : World} {A : Option Addr} {n : Nat} {xs : List Int} (h : Row w .i64 A n xs) (hs : w.heap.size ≤ w'.heap.size) (k : ∀ a, A = some a → 0 < n → w'.heap[a.block]? = w.heap[a.block]?) : Row w' .i64 A n xs :=
  ⟨h.len, h.most, h.wf, fun hn => by
    obtain ⟨a, e, hb, hc⟩ := h.at_ hn
    exact ⟨a, e, Nat.lt_of_lt_of_le hb hs, fun i hi => (World.cell?_of_block (w := w) (by rw [add_block]; exact k a e hn)).trans (hc i hi)⟩⟩
theorem MRow.fr {mv hv : Value} {ts : List Int} (h : MRow P mv ts hv W) (f : Fr P.L P.ws W W') : MRow P mv ts hv W' := by
  obtain ⟨A, cp, e, h1, h2, h3⟩ := h.at_
  have hlt : ∀ a, A = some a → 0 < ts.length → a.block < W.heap.size := fun a ea hn => by
    obtain ⟨a', e', hb, _⟩ := h2.at_ hn
    rw [ea] at e'
    injection e' with e'
    subst e'
    exact hb
  exact ⟨A, cp, e, h1, h2.heap f.size fun a ea hn => f.block _ (hlt a ea hn) (h3 a ea hn).1 (h3 a ea hn).2.1, fun a ea hn => ⟨(h3 a ea hn).1, f.row (hlt a ea hn) (h3 a ea hn).2.1, (h3 a ea hn).2.2⟩⟩
/-- hands were appended to, or cut. -/
theorem MRow.turn (hG : P.Good) (hi : SI P r s W) {mv hv hv' : Value} {ts : List Int} (h : MRow P mv ts hv W) (t : Turns hv.ownBlock.toList W W') (hK : ∀ b, b ∈ hv.ownBlock.toList → b ∉ P.L) (hn : ∀ g, hv'.ownBlock = some g → hv.ownBlock = some g ∨ W.heap.size ≤ g) : MRow P mv ts hv' W' := by
  obtain ⟨A, cp, e, h1, h2, h3⟩ := h.at_
  have hlt : ∀ a, A = some a → 0 < ts.length → a.block < W.heap.size := fun a ea hp => by
    obtain ⟨a', e', hb, _⟩ := h2.at_ hp
    rw [ea] at e'
    injection e' with e'
    subst e'
    exact hb
  exact ⟨A, cp, e, h1, h2.heap t.size fun a ea hp => t.block _ (hlt a ea hp) (fun hm => (h3 a ea hp).2.2 (by simpa using hm)), fun a ea hp => ⟨(h3 a ea hp).1, fun q => (h3 a ea hp).2.1 (SI.rows_turns hG hi t hK q), fun e2 => by
    rcases hn _ e2 with h4 | h4
    · exact (h3 a ea hp).2.2 h4
    · have := hlt a ea hp; omega⟩⟩
theorem MRow.nil (hv : Value) : MRow P (.slice none 0 0) [] hv W := ⟨none, 0, rfl, Nat.le_refl _, ⟨rfl, by simp, by simp, fun h => by simp at h⟩, fun a e => by cases e⟩
theorem MRow.tail {A : Option Addr} {cp : Nat} {i : Int} {ts : List Int} {hv : Value} (h : MRow P (.slice A (ts.length + 1) cp) (i :: ts) hv W) : MRow P (.slice (tailO A cp) ts.length (cp - 1)) ts hv W := by
  obtain ⟨A', cp', e, h1, h2, h3⟩ := h.at_
  injection e with e1 _ e3
  subst e1
  subst e3
  have h1 : ts.length + 1 ≤ cp := h1
  refine ⟨_, _, rfl, by omega, Row.tail1 (n := ts.length) h2 h1, fun a ea hp => ?_⟩
  unfold tailO at ea
  rw [if_neg (by omega)] at ea
  obtain ⟨a', rfl, rfl⟩ := Option.map_eq_some_iff.1 ea
  rw [add_block]
  exact h3 a' rfl (by simp)
theorem MRow.row {mv hv : Value} {ts : List Int} (h : MRow P mv ts hv W) : ∃ A cp, mv = .slice A ts.length cp ∧ Row W .i64 A ts.length ts := by
  obtain ⟨A, cp, e, _, h2, _⟩ := h.at_
  exact ⟨A, cp, e, h2⟩
/-- what was just made by a call. -/
theorem MRow.new (hG : P.Good) (hi : SI P r s W) {v hv : Value} {xs : List Int} (h : IRow W' W.heap.size v xs) (b : Below W.heap.size W W') (hv1 : ∀ g, hv.ownBlock = some g → g < W.heap.size) : MRow P v xs hv W' := by
  have hL : LRow P W.heap.size v xs W' := LRow.new hG hi h b (Nat.le_refl _)
  obtain ⟨A, cp, e, hr⟩ := h.row
  obtain ⟨A', cp', e', hle⟩ := own_slice h.own
  rw [e] at e'
  injection e' with e1 _ e3
  subst e1
  subst e3
  refine ⟨A, cp, e, hle, hr, fun a ea hp => ?_⟩
  have ho : v.ownBlock = some a.block := by
    rcases h.own.2 with ⟨h0, h1⟩ | ⟨g, cap, cur, h0, _⟩
    · omega
    · rw [h0] at e
      injection e with e _ _
      rw [ea] at e
      injection e with e
      rw [h0, ← e]
      rfl
  refine ⟨(hL.out _ ho).1, (hL.out _ ho).2, fun e2 => ?_⟩
  have h1 := hv1 _ e2
  have h2 := (h.lt _ ho).1
  omega

theorem LRow.lt {v : Value} {xs : List Int} (h : LRow P B v xs W) : ∀ g, v.ownBlock = some g → g < W.heap.size := fun g hg => (h.row.lt g hg).2
/-- the law's own row, appended to. -/
theorem LRow.grow (hG : P.Good) (hi : SI P r s W) {hv : Value} {xs ys : List Int} (h : LRow P B hv xs W) {g cap n : Nat} {W9 : World} (ho : W9.ownsRow B 3 1 (.slice (some ⟨g, 0, none⟩) n cap) n (ys.map (Value.int .i64))) (hy : ys.length = n) (hw : Ints ys) (hg : W.grownBy W9 hv.ownBlock) (hat : hv.ownBlock = some g ∨ W.heap.size ≤ g) :
    LRow P B (.slice (some ⟨g, 0, none⟩) n cap) ys W9 ∧ Turns hv.ownBlock.toList W W9 := by
  have t : Turns hv.ownBlock.toList W W9 := ⟨hg.os, hg.tape, hg.output, hg.size, fun b hb hn => hg.block b hb (fun e => hn (by rw [← e]; simp))⟩
  have hK : ∀ b, b ∈ hv.ownBlock.toList → b ∉ P.L := fun b hb => (h.out b (by simpa using hb)).1
  subst hy
  refine ⟨⟨⟨ho, hw⟩, fun b hb => ?_⟩, t⟩
  simp [Value.ownBlock] at hb
  subst hb
  rcases hat with h1 | h1
  · exact ⟨(h.out _ h1).1, fun q => (h.out _ h1).2 (SI.rows_turns hG hi t hK q)⟩
  · refine ⟨fun hm => ?_, fun q => ?_⟩
    · have := ((sm_ok P hG).okw _ _ _ hi).lt _ hm
      omega
    · obtain ⟨_, cur, hl⟩ := hi.rw (SI.rows_turns hG hi t hK q)
      have := hl.lt
      omega
/-- the law's own row, cut at its end. -/
theorem LRow.cut {A : Option Addr} {n cap : Nat} {ys : List Int} {y : Int} (h : LRow P B (.slice A (n + 1) cap) (ys ++ [y]) W) (hy : ys.length = n) : LRow P B (.slice A n cap) ys W := by
  have ho : W.ownsRow B 3 1 (.slice A (n + 1) cap) (n + 1) (intVs ys ++ intVs [y]) := by
    have := h.row.own
    rw [List.length_append, hy, List.map_append] at this
    exact this
  have hA : ∃ g, A = some ⟨g, 0, none⟩ := by
    rcases ho.2 with ⟨h0, _⟩ | ⟨g, c, cur, h0, _⟩
    · cases h0
    · injection h0 with h0 _ _
      exact ⟨g, h0⟩
  obtain ⟨g, rfl⟩ := hA
  refine ⟨⟨?_, fun x hx => h.row.ints x (List.mem_append.2 (.inl hx))⟩, fun b hb => h.out b hb⟩
  rw [hy]
  exact ownsRow_pop (size := 1) (by rw [List.length_map, hy, Nat.mul_one]) ho
end

/-- in StackAlone's loop: t acts are through. -/
structure Al (w0 : World) (P : SP) (bx B0 k t : Nat) (mv hv : Value) (W : World) : Prop where
  si : ∃ s ts, SI P (6 * (60 - t)) s W ∧ One k s.l (s.hs 0) ts ∧ s.wr 0 = false ∧ MRow P mv ts hv W ∧ LRow P B0 hv (s.hs 0) W
  box : (SM P).Bx W bx 27 (stC P)
  be : Below B0 w0 W
  le : t ≤ 60

/-- ahead of its act's steps: a task at block tk, whose code is begun. -/
structure Ax (w0 : World) (P : SP) (bx B0 m tk : Nat) (ex : List Nat) (q : SPr) (s : SSt) (W : World) : Prop where
  si : SI (P.with ex) m s W
  task : (SM (P.with ex)).Task m q 0 tk W
  w : (SM (P.with ex)).W q s
  box : (SM P).Bx W bx 27 (stC P)
  be : Below B0 w0 W
  low : B0 ≤ tk
theorem Ax.turns {w0 : World} {P : SP} {bx B0 m tk : Nat} {ex : List Nat} {q : SPr} {s : SSt} {W W' : World} (hG : P.Good) (hP : P.ex = []) (h : Ax w0 P bx B0 m tk ex q s W) (hB : B0 ≤ W.heap.size) (t : Turns ex W W') (hx : ∀ b, b ∈ ex → b ∉ P.L ∧ ¬ Rw P.ws W b ∧ b ≠ tk ∧ b ≠ bx ∧ B0 ≤ b) : Ax w0 P bx B0 m tk ex q s W' := by
  have hi := h.si.bare hP
  have hi' := hi.turns t fun b hb => ⟨(hx b hb).1, (hx b hb).2.1⟩
  refine ⟨hi'.with fun b hb => Nat.lt_of_lt_of_le (h.si.exl b hb) t.size, h.task.keep (t.block _ h.task.lt fun hm => (hx _ hm).2.2.1 rfl) ?_, h.w, Gm.Bx.turns hG hi h.box t (fun b hb => (hx b hb).1) (fun hm => (hx _ hm).2.2.2.1 rfl), h.be.trans (t.below (fun b hb => (hx b hb).2.2.2.2) hB), h.low⟩
  exact Mv.of_turns t (fun b hb => .inl (List.mem_append.2 (.inr hb))) fun x hxm => ⟨hi.block_lt hxm, fun hm => (hx _ hm).1 ((sm_ok P hG).cells x hxm)⟩

/-- what the act's steps will do. -/
def Acts8 (P : SP) (ex : List Nat) (k : Nat) (q : SPr) (s : SSt) (hs ts : List Int) : Prop :=
  (SM (P.with ex)).ended ((SM (P.with ex)).runN q s 0 6).1 = true ∧ One k ((SM (P.with ex)).runN q s 0 6).2.1.l (((SM (P.with ex)).runN q s 0 6).2.1.hs 0) ts ∧ ((SM (P.with ex)).runN q s 0 6).2.1.hs 0 = hs ∧ ((SM (P.with ex)).runN q s 0 6).2.1.wr 0 = false

structure Am (w0 : World) (P : SP) (bx B0 k m tk : Nat) (mv hv : Value) (W : World) : Prop where
  si : ∃ (ex : List Nat) (q : SPr) (s : SSt) (hs ts : List Int), Ax w0 P bx B0 m tk ex q s W ∧ Acts8 P ex k q s hs ts ∧ MRow P mv ts hv W ∧ LRow P B0 hv hs W
  off : (∀ A n c a, mv = .slice A n c → A = some a → 0 < n → a.block ≠ tk) ∧ hv.ownBlock ≠ some tk

section
variable {P : SP} {r B tk : Nat} {s : SSt} {W W' : World}
theorem MRow.past {mv hv : Value} {ts : List Int} (h : MRow P mv ts hv W) (f : Fr (tk :: P.L) P.ws W W') (ht : ∀ A n c a, mv = .slice A n c → A = some a → 0 < n → a.block ≠ tk) : MRow P mv ts hv W' := by
  obtain ⟨A, cp, e, h1, h2, h3⟩ := h.at_
  have hlt : ∀ a, A = some a → 0 < ts.length → a.block < W.heap.size := fun a ea hn => by
    obtain ⟨a', e', hb, _⟩ := h2.at_ hn
    rw [ea] at e'
    injection e' with e'
    subst e'
    exact hb
  exact ⟨A, cp, e, h1, h2.heap f.size fun a ea hn => f.block _ (hlt a ea hn) (fun hm => by
    rcases List.mem_cons.1 hm with h4 | h4
    · exact ht _ _ _ _ e ea hn h4
    · exact (h3 a ea hn).1 h4) (h3 a ea hn).2.1, fun a ea hn => ⟨(h3 a ea hn).1, f.row (hlt a ea hn) (h3 a ea hn).2.1, (h3 a ea hn).2.2⟩⟩
theorem LRow.past {v : Value} {xs : List Int} (h : LRow P B v xs W) (f : Fr (tk :: P.L) P.ws W W') (ht : v.ownBlock ≠ some tk) : LRow P B v xs W' :=
  ⟨h.row.kept fun g hg => f.block g (h.row.lt g hg).2 (fun hm => by
    rcases List.mem_cons.1 hm with h4 | h4
    · exact ht (by rw [hg, h4])
    · exact (h.out g hg).1 h4) (h.out g hg).2, fun g hg => ⟨(h.out g hg).1, f.row (h.row.lt g hg).2 (h.out g hg).2⟩⟩
theorem Gm.Bx.past {b : Nat} {t : TypeId} {cs : Array Value} (x : (SM P).Bx W b t cs) (f : Fr (tk :: P.L) P.ws W W') (hb : b ≠ tk) : (SM P).Bx W' b t cs :=
  ⟨f.lies x.l (fun hm => by
    rcases List.mem_cons.1 hm with h4 | h4
    · exact hb h4
    · exact x.out h4) x.row, x.out, f.row x.l.lt x.row, x.ty, x.outX⟩
theorem W_mark {q : SPr} {j k : Nat} {b : Bool} (h : (SM P).W q s) : (SM P).W q (s.mark j k b) := by
  have e : (s.mark j k b).hs = s.hs := by
    unfold SSt.mark
    split
    · rfl
    · split <;> rfl
  obtain ⟨i, m, l⟩ := q
  cases m <;> first | trivial | (show (s.mark j k b).hs i ≠ []; rw [e]; exact h)
end

/-- 'append([]int{}, l...)'. -/
theorem wpList_copy {W : World} {B' : Nat} {xs : List Int} {ops : Array Oper} {rest : List Oper} {o : Oper} {a : Act} {Q : Exit → Act → World → Prop} (hgd : o.guard = none) (s x : Operand) (ho : o.op = .call { callee := .builtin .append, args := #[s, x], argTypes := #[31, 31] })
    (hs : a.eval s = .slice (some ⟨W.heap.size, 0, none⟩) 0 0) (v : Value) (hx : a.eval x = v) (hr : W.ownsRow B' 3 1 v xs.length (xs.map (Value.int .i64))) (hi : Ints xs) (hl : xs.length ≤ 1000)
    (hK : ∀ v' w', IRow w' W.heap.size v' xs → Turns [] W w' → wpList Try.prog ops Q rest (a.put o.dst v') w') : wpList Try.prog ops Q (o :: rest) a (W.alloc (.cells #[] 3)) := by
  obtain ⟨i0, hi0, hz0, hz1, hz2⟩ := info_parts int_info4
  have h0 : (W.alloc (.cells #[] 3)).ownsRow W.heap.size 3 1 (.slice (some ⟨W.heap.size, 0, none⟩) 0 0) 0 [] :=
    ⟨rfl, .inr ⟨W.heap.size, 0, #[], rfl, Nat.le_refl _, heap_alloc_new W _, Nat.le_refl _, by simp [maxLen], rfl, rfl⟩⟩
  have k0 : Turns [] W (W.alloc (.cells #[] 3)) := (Turns.refl _ _).alloc _
  by_cases hn : xs.length = 0
  · obtain rfl := List.length_eq_zero_iff.1 hn
    obtain ⟨A, c, rfl, _⟩ := own_slice hr
    exact wpList_append_zero hgd s x 31 ho 3 i0 Try.underlying31 hi0 ⟨W.heap.size, 0, none⟩ 0 0 A c (Nat.le_refl _) hs hx (hK _ _ ⟨h0, Ints.nil⟩ k0)
  · obtain ⟨g, c, rfl, _, hglt⟩ := hr.form (by omega)
    refine wpList_append_lies _ hgd s x 31 ho W.heap.size 3 i0 _ 1 8 Try.underlying31 hi0 hz0 hz1 hz2 rfl (by omega) _ 0 [] hs h0 ⟨g, 0, none⟩ xs.length c (xs.map (Value.int .i64)) hx (by simp) ?_ ?_ (by omega) (by simp only [maxLen]; omega) (by omega) (by simp) _ rfl ?_
    · intro j u hu
      have := hr.cells (g := g) rfl j u hu
      exact (k0.cell (by rw [add_block]; exact hglt) (by simp)).trans this
    · intro u hu
      obtain ⟨j, _, rfl⟩ := List.mem_map.1 hu
      rfl
    · intro g' cap w' h1 h2 h3 _
      rw [Nat.zero_add] at h1 ⊢
      refine hK _ _ ⟨by simpa using h1, hi⟩ ⟨h2.os, h2.tape, h2.output, ?_, fun b hb _ => ?_⟩
      · have := h2.size
        simp at this
        omega
      · rw [h2.block b (by simp; omega) (by simp [Value.ownBlock]; omega)]
        exact Below.heap_alloc W _ b hb

section
variable {w0 : World} {P : SP} {bx B0 k m tk : Nat} {ex : List Nat} {q : SPr} {s : SSt} {W : World} {mv hv : Value} {hs ts : List Int} {i : Int}
theorem Am.same (hG : P.Good) (hP : P.ex = []) (ax : Ax w0 P bx B0 m tk ex q s W) (hx : ∀ b, b ∈ ex → b ∉ P.L ∧ ¬ Rw P.ws W b ∧ b ≠ tk ∧ b ≠ bx ∧ B0 ≤ b) (hB : B0 ≤ W.heap.size) (act : Acts8 P ex k q s hs ts) (mr : MRow P mv ts hv W) (lr : LRow P B0 hv hs W)
    (o1 : ∀ A n c a, mv = .slice A n c → A = some a → 0 < n → a.block ≠ tk) (o2 : hv.ownBlock ≠ some tk) {W' : World} (t : Turns [] W W') : Am w0 P bx B0 k m tk mv hv W' := by
  have f := ((sm_ok P hG).okw _ _ _ (ax.si.bare hP)).fr (sm_ok P hG) t
  exact ⟨⟨ex, q, s, hs, ts, ax.turns hG hP hB (t.more (by simp)) hx, act, mr.fr f, lr.fr f⟩, o1, o2⟩

theorem Am.pop (hG : P.Good) (hP : P.ex = []) {A : Option Addr} {cp : Nat} (ax : Ax w0 P bx B0 m tk ex q s W) (hex : hv.ownBlock.toList = ex) (hx : ∀ b, b ∈ ex → b ∉ P.L ∧ ¬ Rw P.ws W b ∧ b ≠ tk ∧ b ≠ bx ∧ B0 ≤ b) (hB : B0 ≤ W.heap.size) (act : Acts8 P ex k q s (hs ++ [i]) ts) (mr : MRow P (.slice A (ts.length + 1) cp) (i :: ts) hv W) (lr : LRow P B0 hv hs W)
    (o1 : ∀ A' n c a, Value.slice A (ts.length + 1) cp = .slice A' n c → A' = some a → 0 < n → a.block ≠ tk) (o2 : hv.ownBlock ≠ some tk) (hi : (Lit.int .i64 i).wf = true)
    {g cap : Nat} {w9 : World} (ho : w9.ownsRow B0 3 1 (.slice (some ⟨g, 0, none⟩) (hs.length + 1) cap) (hs.length + 1) (hs.map (Value.int .i64) ++ [.int .i64 i])) (hg : (W.drew.alloc (.cells #[.int .i64 i] 3)).grownBy w9 hv.ownBlock) (hat : hv.ownBlock = some g ∨ g = W.heap.size + 1) :
    Am w0 P bx B0 k m tk (.slice (tailO A cp) ts.length (cp - 1)) (.slice (some ⟨g, 0, none⟩) (hs.length + 1) cap) w9 := by
  have t1 : Turns [] W (W.drew.alloc (.cells #[.int .i64 i] 3)) := ((Turns.refl [] W).drew).alloc _
  have htk := ax.task.lt
  have hi0 := ax.si.bare hP
  have f := ((sm_ok P hG).okw _ _ _ hi0).fr (sm_ok P hG) t1
  have hi1 := hi0.turns t1 (by simp)
  have lr1 := lr.fr f
  have mr1 := mr.fr f
  have ax1 := ax.turns hG hP hB (t1.more (by simp)) hx
  have hz : (W.drew.alloc (.cells #[.int .i64 i] 3)).heap.size = W.heap.size + 1 := by simp
  generalize (W.drew.alloc (.cells #[.int .i64 i] 3)) = W1 at *
  obtain ⟨lr2, t2⟩ := lr1.grow hG hi1 (ys := hs ++ [i]) (by rw [List.map_append]; exact ho) (by simp) (lr.row.ints.app (Ints.one hi)) hg (hat.imp id fun h => by omega)
  have hK : ∀ b, b ∈ hv.ownBlock.toList → b ∉ P.L := fun b hb => (hx b (hex ▸ hb)).1
  have mr2 := (mr1.turn hG hi1 t2 hK (hv' := .slice (some ⟨g, 0, none⟩) (hs.length + 1) cap) (fun g' hg' => by
    simp [Value.ownBlock] at hg'
    subst hg'
    rcases hat with h | h
    · exact .inl h
    · exact .inr (by omega))).tail
  rw [hex] at t2
  refine ⟨⟨ex, q, s, hs ++ [i], ts, ax1.turns hG hP (by omega) t2 (fun b hb => ?_), act, mr2, lr2⟩, fun A' n c a e1 e2 hn => ?_, fun e => ?_⟩
  · obtain ⟨h1, h2, h3⟩ := hx b hb
    exact ⟨h1, fun q => h2 (SI.rows_turns hG hi0 t1 (by simp) q), h3⟩
  · obtain ⟨A'', cp'', e3, h4, _⟩ := mr.at_
    injection e3 with e3 _ e4
    subst e4
    have h4 : ts.length + 1 ≤ cp := h4
    injection e1 with e1 e5 _
    subst e1
    subst e5
    unfold tailO at e2
    rw [if_neg (by omega)] at e2
    obtain ⟨a', ha', rfl⟩ := Option.map_eq_some_iff.1 e2
    rw [add_block]
    exact o1 A _ _ a' rfl ha' (by omega)
  · simp [Value.ownBlock] at e
    subst e
    rcases hat with h | h
    · exact o2 h
    · omega

theorem Am.push (hG : P.Good) (hP : P.ex = []) {A : Option Addr} {n cp : Nat} (ax : Ax w0 P bx B0 m tk ex q s W) (hx : ∀ b, b ∈ ex → b ∉ P.L ∧ ¬ Rw P.ws W b ∧ b ≠ tk ∧ b ≠ bx ∧ B0 ≤ b) (hB : B0 ≤ W.heap.size) (act : Acts8 P ex k q s hs (i :: ts)) (lr : LRow P B0 (.slice A (n + 1) cp) (hs ++ [i]) W) (hn : hs.length = n)
    (o2 : (Value.slice A (n + 1) cp).ownBlock ≠ some tk) {v : Value} {W0 W' : World} (t0 : Turns [] W W0) (h : IRow W' W0.heap.size v (i :: ts)) (b : Below W0.heap.size W0 W') : Am w0 P bx B0 k m tk v (.slice A n cp) W' := by
  have htk := ax.task.lt
  have hi0 := ax.si.bare hP
  have t : Turns [] W0 W' := Turns.of_below b (Nat.le_refl _)
  have f := ((sm_ok P hG).okw _ _ _ hi0).fr (sm_ok P hG) (t0.trans t)
  have f0 := ((sm_ok P hG).okw _ _ _ hi0).fr (sm_ok P hG) t0
  have hb : (Value.slice A n cp).ownBlock = (Value.slice A (n + 1) cp).ownBlock := by cases A <;> rfl
  have hm : MRow P v (i :: ts) (.slice A n cp) W' := MRow.new hG (hi0.turns t0 (by simp)) h b (fun g hg => (lr.fr f0).lt g (by rw [← hb]; exact hg))
  refine ⟨⟨ex, q, s, hs, i :: ts, ax.turns hG hP hB ((t0.trans t).more (by simp)) hx, act, hm, (lr.fr f).cut hn⟩, fun A' n' c a e1 e2 hp => ?_, by rw [hb]; exact o2⟩
  have hg : v.ownBlock = some a.block := by
    rcases h.own.2 with ⟨h0, _⟩ | ⟨g, cap, cur, h0, _⟩
    · rw [h0] at e1; injection e1 with e1 _ _; rw [← e1] at e2; cases e2
    · rw [h0] at e1
      injection e1 with e1 _ _
      rw [← e1] at e2
      injection e2 with e2
      rw [h0, ← e2]
      rfl
  have := (h.lt _ hg).1
  have := t0.size
  omega
end

end Go.Proofs.Ytgdonejclggjlaa

/- The inbox: one task alone, act by act: what holds between acts. -/
namespace Go.Proofs.Ytgdonejclggjlaa
open Go.RowKit Go.ChangeShapes Go.WideShapes
set_option maxRecDepth 100000

/-- the state without what an owner got. -/
def BSt.bare (s : BSt) : BSt := ⟨s.l, s.k, [], []⟩
def BSt.own (s : BSt) (g e : List Int) : BSt := ⟨s.l, s.k, g, e⟩
def isP (q : BPr) : Prop := match q.m with
  | .dR => False
  | .dT _ => False
  | .eN _ => False
  | .eI _ => False
  | _ => True
theorem isP_start (l : List Int) : isP (startP l) := by cases l <;> trivial
theorem step_own (n : Nat) (q : BPr) (s : BSt) (g e : List Int) (h : isP q) : bStep n q (s.own g e) = ((bStep n q s).1, (bStep n q s).2.own g e) ∧ isP (bStep n q s).1 := by
  obtain ⟨m, ql, qn⟩ := q
  cases m with
  | dR => exact h.elim
  | dT o => exact h.elim
  | eN i => exact h.elim
  | eI x => exact h.elim
  | done => exact ⟨rfl, trivial⟩
  | pR =>
    refine ⟨rfl, ?_⟩
    unfold bStep
    dsimp only
    split <;> trivial
  | pD o =>
    refine ⟨rfl, ?_⟩
    unfold bStep
    dsimp only
    split <;> trivial
  | pN o => exact ⟨rfl, trivial⟩
  | pT o y =>
    refine ⟨rfl, ?_⟩
    unfold bStep
    dsimp only
    split <;> trivial
  | pA i => exact ⟨rfl, trivial⟩
  | pB i o => exact ⟨rfl, trivial⟩
  | pC i o =>
    show (if casB s.l 1 o = true then _ else _) = _ ∧ _
    unfold bStep
    dsimp only
    split <;> exact ⟨rfl, trivial⟩
  | pS o => exact ⟨rfl, trivial⟩
  | pU o =>
    show (if casB s.l 0 o = true then _ else _) = _ ∧ _
    unfold bStep
    dsimp only
    split
    · exact ⟨rfl, isP_start _⟩
    · exact ⟨rfl, trivial⟩
theorem runP_own {P : BP} {q : BPr} {s : BSt} (g e : List Int) (d : Nat) (h : isP q) : ∀ m, (BM P).runN q (s.own g e) d m = (((BM P).runN q s d m).1, ((BM P).runN q s d m).2.1.own g e, ((BM P).runN q s d m).2.2) ∧ isP ((BM P).runN q s d m).1
  | 0 => ⟨rfl, h⟩
  | m + 1 => by
    obtain ⟨h1, h2⟩ := runP_own (P := P) (s := s) g e d h m
    have e1 : (BM P).runN q (s.own g e) d (m + 1) = ((BM P).sQ ((BM P).runN q (s.own g e) d m).1 ((BM P).runN q (s.own g e) d m).2.1, (BM P).sS ((BM P).runN q (s.own g e) d m).1 ((BM P).runN q (s.own g e) d m).2.1, (BM P).sD ((BM P).runN q (s.own g e) d m).1 ((BM P).runN q (s.own g e) d m).2.2) := rfl
    have e2 : (BM P).runN q s d (m + 1) = ((BM P).sQ ((BM P).runN q s d m).1 ((BM P).runN q s d m).2.1, (BM P).sS ((BM P).runN q s d m).1 ((BM P).runN q s d m).2.1, (BM P).sD ((BM P).runN q s d m).1 ((BM P).runN q s d m).2.2) := rfl
    rw [e1, e2, h1]
    generalize (BM P).runN q s d m = c at *
    obtain ⟨h3, h4⟩ := step_own P.n c.1 c.2.1 g e h2
    dsimp only
    unfold Gm.sQ Gm.sS Gm.sD
    by_cases he : (BM P).ended c.1 = true
    · simp only [if_pos he]
      exact ⟨trivial, h2⟩
    · simp only [if_neg he]
      have h5 : (BM P).step c.1 (c.2.1.own g e) = (((BM P).step c.1 c.2.1).1, ((BM P).step c.1 c.2.1).2.own g e) := h3
      rw [h5]
      exact ⟨rfl, h4⟩
theorem Gb.rebase {n N T : Nat} {all : List Int} {q : Nat → BPr} {s : BSt} {hs : Nat → List Int} {bx fs : List Int} (h : Gb n N T all q s hs bx fs) : Gb n N T (bx ++ (fs ++ allB N hs)) q s.bare hs bx fs :=
  ⟨h.ok, h.cb, h.cf, fun a => by rw [List.count_append, List.count_append]; show _ + _ + ([] : List Int).count a + _ = _; simp; omega, fun a => by rw [List.count_append, List.count_append]; have := h.cnt a; have := h.one a; omega, fun a ha => h.rng a (by
    have h1 := count_mem.1 ha
    rw [List.count_append, List.count_append] at h1
    have := h.cnt a
    exact count_mem.2 (by omega)), h.h0, h.h1, h.wk, h.dead, h.fit⟩
theorem Gb.rebase_mem {n N T : Nat} {all : List Int} {q : Nat → BPr} {s : BSt} {hs : Nat → List Int} {bx fs : List Int} (h : Gb n N T all q s hs bx fs) {a : Int} (ha : a ∈ bx ++ (fs ++ allB N hs)) : a ∈ all := by
  have h1 := count_mem.1 ha
  rw [List.count_append, List.count_append] at h1
  have := h.cnt a
  exact count_mem.2 (by omega)

/-- a slice of numbers that can be read, apart from all that steps write. -/
structure MR (P : BP) (v : Value) (xs : List Int) (W : World) : Prop where
  at_ : ∃ A cp, v = .slice A xs.length cp ∧ xs.length ≤ cp ∧ Row W .i64 A xs.length xs ∧ ∀ a, A = some a → 0 < xs.length → (∃ cur, Lies W a.block 3 cur) ∧ ¬ Rw P.ws W a.block
section
variable {P : BP} {r : Nat} {s : BSt} {W W' : World} {v : Value} {xs : List Int}
theorem MR.keep (h : MR P v xs W) (hs : W.heap.size ≤ W'.heap.size) (k : ∀ b cur, Lies W b 3 cur → ¬ Rw P.ws W b → W'.heap[b]? = W.heap[b]? ∧ ¬ Rw P.ws W' b) : MR P v xs W' := by
  obtain ⟨A, cp, e, h1, h2, h3⟩ := h.at_
  refine ⟨A, cp, e, h1, h2.heap hs fun a ea hn => ?_, fun a ea hn => ?_⟩
  · obtain ⟨⟨cur, hl⟩, hr⟩ := h3 a ea hn
    exact (k _ _ hl hr).1
  · obtain ⟨⟨cur, hl⟩, hr⟩ := h3 a ea hn
    obtain ⟨k1, k2⟩ := k _ _ hl hr
    exact ⟨⟨cur, k1.trans hl⟩, k2⟩
theorem MR.turns (hG : P.Good) (hi : BI P r s W) (h : MR P v xs W) (t : Turns [] W W') : MR P v xs W' :=
  h.keep t.size fun b cur hl hr => ⟨t.block b hl.lt (by simp), fun q => hr (BI.rows_turns hG hi t (by simp) q)⟩
theorem MR.nil (P : BP) (W : World) : MR P (.slice none 0 0) [] W := ⟨none, 0, rfl, Nat.le_refl _, ⟨rfl, by simp, by simp, fun h => by simp at h⟩, fun a e => by cases e⟩
theorem MR.row (h : MR P v xs W) : ∃ A cp, v = .slice A xs.length cp ∧ xs.length ≤ cp ∧ Row W .i64 A xs.length xs := by
  obtain ⟨A, cp, e, h1, h2, _⟩ := h.at_
  exact ⟨A, cp, e, h1, h2⟩
theorem MR.new (hG : P.Good) (hi : BI P r s W) (t : Turns [] W W') (h : IRow W' W.heap.size v xs) : MR P v xs W' := by
  obtain ⟨A, cp, e, hr⟩ := h.row
  obtain ⟨A', cp', e', hle⟩ := own_slice (n := xs.length) h.own
  rw [e] at e'
  injection e' with e1 _ e3
  subst e1
  subst e3
  refine ⟨A, cp, e, hle, hr, fun a ea hp => ?_⟩
  have ho : v.ownBlock = some a.block := by rw [e, ea]; rfl
  obtain ⟨hb, cur, hl⟩ := own_block h.own ho
  refine ⟨⟨cur, hl⟩, fun q => ?_⟩
  obtain ⟨_, cur2, hl2⟩ := hi.rw (BI.rows_turns hG hi t (by simp) q)
  have := hl2.lt
  omega
theorem MR.rd (hG : P.Good) (hi : BI P r s W) (t : Turns [] W W') {v0 : Value} {xs0 : List Int} (h0 : MR P v0 xs0 W) (h : Rd W v0 xs0 v xs W') : MR P v xs W' := by
  rcases h.old with ⟨rfl, rfl⟩ | h1
  · exact h0.turns hG hi t
  · exact MR.new hG hi t h1
/-- behind a task's steps, by the machine of whatever owner. -/
theorem MR.past (hG : P.Good) (hi : BI P r s W) (h : MR P v xs W) {L : List Nat} {ws : List Addr} (f : Fr L ws W W') (hL : ∀ b, b ∈ L → (∃ cs, Lies W b 89 cs) ∨ (∃ cs, Lies W b 101 cs) ∨ (∃ cs, Lies W b 111 cs) ∨ ∃ cs, Lies W b 72 cs)
    (hw : (∀ b, ¬ Rw ws W b) ∧ P.ob ∉ L ∨ ws = P.ws) : MR P v xs W' := by
  have hn : ∀ b cur, Lies W b 3 cur → b ∉ L := fun b cur hl hm => by
    rcases hL b hm with ⟨cs, h1⟩ | ⟨cs, h1⟩ | ⟨cs, h1⟩ | ⟨cs, h1⟩
    · exact hl.unlike h1 (by decide) rfl
    · exact hl.unlike h1 (by decide) rfl
    · exact hl.unlike h1 (by decide) rfl
    · exact hl.unlike h1 (by decide) rfl
  refine h.keep f.size fun b cur hl hr => ?_
  rcases hw with ⟨hw, ho⟩ | rfl
  · refine ⟨f.block b hl.lt (hn b cur hl) (hw b), fun q => hr (q.same fun x hx => ?_)⟩
    have hx2 := (bm_ok P hG).cells x hx
    refine f.cell (((bm_ok P hG).okw _ _ _ hi).lt _ hx2) ?_ (hw _)
    rcases BP.ws_mem.1 hx with rfl | rfl <;> exact ho
  · exact ⟨f.block b hl.lt (hn b cur hl) hr, f.row hl.lt hr⟩
end

/-- all is laid, beside an owner of old. -/
theorem beginG {W : World} {p c n ob bx ba bn B r : Nat} {l got ends : List Int} {k : Int} {v u : Value} (ha : Arena W p c l k) (hk : k + r ≤ 4611686018427387904) (hl : BOk n l) (how : Lies W ob 72 #[v, u]) (hv : W.ownsRow B 3 1 v got.length (intVs got)) (hu : W.ownsRow B 3 1 u ends.length (intVs ends)) (hne : ∀ g, v.ownBlock = some g → u.ownBlock ≠ some g) (hg : ∀ i, i ∈ got → Ix i) (he : ∀ i, i ∈ ends → Ix i)
    (hbx : Lies W bx 62 (bxC p 0 1 46 47 #[] #[ptr ba, ptr bn])) (hba : Lies W ba 24 #[ptr p]) (hbn : Lies W bn 3 #[.int .i64 (n : Int)]) (h1 : B ≤ p) (h2 : B ≤ c) (h3 : B ≤ ob) (hn : n ≤ 1000) (hr : got.length + r ≤ 5000 ∧ ends.length + r ≤ 5000) (hx : v.ownBlock ≠ some bn ∧ u.ownBlock ≠ some bn) :
    (⟨p, c, B, n, ob, []⟩ : BP).Good ∧ BI ⟨p, c, B, n, ob, []⟩ r ⟨l, k, got, ends⟩ W ∧ BCtx ⟨p, c, B, n, ob, []⟩ bx ba bn W := by
  have hi : BI ⟨p, c, B, n, ob, []⟩ r ⟨l, k, got, ends⟩ W := ⟨ha, hk, hl, ⟨_, _, how, hv, hu, hne⟩, hg, he, hr, fun b hb => (by cases hb)⟩
  have hG : (⟨p, c, B, n, ob, []⟩ : BP).Good := ⟨⟨h1, h2, h3⟩, ⟨ha.head.unlike ha.body (by decide), how.unlike ha.head (by decide), how.unlike ha.body (by decide)⟩, hn⟩
  have a1 := hi.apart_ty hbx (by decide) (by decide) (by decide) (by decide)
  have a2 := hi.apart_ty hba (by decide) (by decide) (by decide) (by decide)
  refine ⟨hG, hi, ⟨⟨hbx, a1.1, a1.2, by decide, by simp [BM]⟩, ⟨hba, a2.1, a2.2, by decide, by simp [BM]⟩, ⟨hbn, hi.apart_int hbn, fun q => ?_, by decide, by simp [BM]⟩⟩⟩
  obtain ⟨a, ha', o, m, d, e⟩ := q
  rcases BP.ws_mem.1 ha' with rfl | rfl
  · rw [show W.cell? ⟨ob, 0, none⟩ = some v from how.cell 0] at e
    injection e with e
    exact hx.1 (by rw [e]; rfl)
  · rw [show W.cell? ⟨ob, 1, none⟩ = some u from how.cell 1] at e
    injection e with e
    exact hx.2 (by rw [e]; rfl)

/-- between acts: t are through, nx tickets were put; which are in the box, and free; which are dead. -/
structure Alc (P : BP) (db t nx : Nat) (mv fv : Value) (W : World) (s : BSt) (N T : Nat) (all : List Int) (q : Nat → BPr) (hs : Nat → List Int) (b f : List Int) (d : Int → Bool) : Prop where
  si : BI P (20 * (60 - t) + 160 * (20 - nx) + 4 * b.length) s W
  gb : Gb 20 N T all q s.bare hs b f
  mks : MarksAre 20 s.l d
  few : T ≤ 1000 * t
  new : ∀ a, a ∈ all → a < (nx : Int)
  len : all.length ≤ nx
  m : MR P mv b W
  f : MR P fv f W
  dead : ∀ i : Nat, i < 20 → W.cell? ⟨db, i, none⟩ = some (.bool (d i))
structure Al9 (w0 : World) (P : BP) (bx ba bn db t nx : Nat) (mv fv : Value) (W : World) : Prop where
  at_ : ∃ s N T all q hs b f d, Alc P db t nx mv fv W s N T all q hs b f d
  dl : ∃ cs, Lies W db 4 cs
  ctx : BCtx P bx ba bn W
  be : Below P.B w0 W
  nx : nx ≤ 20
section
variable {w0 : World} {P : BP} {bx ba bn db t nx N T : Nat} {mv fv v1 v2 cv : Value} {W W1 W2 W3 : World} {s : BSt} {all b f : List Int} {q : Nat → BPr} {hs : Nat → List Int} {d : Int → Bool}
theorem Al9.turns (hG : P.Good) (h : Al9 w0 P bx ba bn db t nx mv fv W) (k : Turns [] W W1) : Al9 w0 P bx ba bn db t nx mv fv W1 := by
  obtain ⟨s, N, T, all, q, hs, b, f, d, h1, h2, h3, h4, h5, h6, h7, h8, h9⟩ := h.at_
  obtain ⟨cs, hl⟩ := h.dl
  exact ⟨⟨s, N, T, all, q, hs, b, f, d, h1.turns k (by simp), h2, h3, h4, h5, h6, h7.turns hG h1 k, h8.turns hG h1 k, fun i hi => (k.cell (p := ⟨db, i, none⟩) hl.lt (by simp)).trans (h9 i hi)⟩, ⟨cs, hl.turn k (by simp)⟩, h.ctx.turns hG h1 k (by simp) (by simp), h.be.trans (k.below (by simp) ((bm_ok P hG).okw _ _ _ h1).base), h.nx⟩
/-- code that puts the next ticket. -/
theorem Al9.code (hG : P.Good) (hP : P.n = 20) (hx : P.ex = []) (h : Al9 w0 P bx ba bn db t nx mv fv W) (hn : nx < 20) (k : Turns [] W W1) {g : Nat} (hg : W.heap.size ≤ g) (lg : Lies W1 g 3 #[.int .i64 (nx : Int)]) : (BM P).Makes 6000 (startP [(nx : Int)]) 30 #[bxP P #[ptr ba, ptr bn], .slice (some ⟨g, 0, none⟩) 1 1, .nilFunc] W1 := by
  obtain ⟨s, N, T, all, q, hs, b, f, d, h1, _⟩ := h.at_
  have hi := h1.turns k (by simp)
  have hx1 := h.ctx.turns hG h1 k (by simp) (by simp)
  refine puts_g hG (ba := ba) (bn := bn) 6000 [(nx : Int)] (fun y hy => by rw [List.mem_singleton] at hy; subst hy; rw [hP]; omega) (some ⟨g, 0, none⟩) 1 W1 _ s (Nat.le_refl _) hi ⟨by simp, fun _ => ⟨_, rfl, lg.lt, fun hm => (List.mem_append.1 hm).elim (hi.apart_int lg) (by rw [hx]; simp), fun q => ?_, fun q => q.ne lg (by decide), fun i hi' => ?_⟩⟩ hx1.xa hx1.xn
  · obtain ⟨_, cur2, hl2⟩ := h1.rw (BI.rows_turns hG h1 k (by simp) q)
    have h9 : g < W.heap.size := hl2.lt
    omega
  · have hi2 : i < 1 := hi'
    obtain rfl : i = 0 := by omega
    rw [add_head4, lg.cell 0]
    rfl
theorem helpL_len (d : Int → Bool) : ∀ (b f : List Int), (helpL d b f).1.length ≤ b.length
  | [], f => Nat.le_refl _
  | x :: b, f => by
    show (if d x = true then helpL d b (x :: f) else (x :: b, f)).1.length ≤ _
    split
    · have := helpL_len d b (x :: f)
      simp
      omega
    · exact Nat.le_refl _
/-- the blocks of a task's steps, by their types. -/
theorem BI.types {r : Nat} (h : BI P r s W) {tk : Nat} {cs : Array Value} (l : Lies W tk 89 cs) : ∀ b, b ∈ tk :: P.L → (∃ cs, Lies W b 89 cs) ∨ (∃ cs, Lies W b 101 cs) ∨ (∃ cs, Lies W b 111 cs) ∨ ∃ cs, Lies W b 72 cs := fun b hb => by
  rcases List.mem_cons.1 hb with rfl | hb
  · exact .inl ⟨_, l⟩
  · rcases BP.L_mem.1 hb with rfl | rfl | rfl
    · exact .inr (.inl ⟨_, h.ar.head⟩)
    · exact .inr (.inr (.inl ⟨_, h.ar.body⟩))
    · obtain ⟨v, u, hl, _⟩ := h.ow
      exact .inr (.inr (.inr ⟨_, hl⟩))
theorem off_types {L : List Nat} {g : Nat} {ty : TypeId} {cs : Array Value} (l : Lies W g ty cs) (hL : ∀ b, b ∈ L → (∃ cs, Lies W b 89 cs) ∨ (∃ cs, Lies W b 101 cs) ∨ (∃ cs, Lies W b 111 cs) ∨ ∃ cs, Lies W b 72 cs) (h1 : ty ≠ 89) (h2 : ty ≠ 101) (h3 : ty ≠ 111) (h4 : ty ≠ 72) : g ∉ L := fun hm => by
  rcases hL g hm with ⟨cs, k⟩ | ⟨cs, k⟩ | ⟨cs, k⟩ | ⟨cs, k⟩
  · exact l.unlike k h1 rfl
  · exact l.unlike k h2 rfl
  · exact l.unlike k h3 rfl
  · exact l.unlike k h4 rfl
theorem BSt.own_bare (s : BSt) : s.bare.own s.got s.ends = s := rfl

/-- a ticket is put. -/
theorem Alc.put (hG : P.Good) (hP : P.n = 20) (h : Alc P db t nx mv fv W s N T all q hs b f d) (hdl : ∃ cs, Lies W db 4 cs) (hctx : BCtx P bx ba bn W) (hbe : Below P.B w0 W) (hn : nx < 20) (ht : t < 60) (k : Turns [] W W3) (hc : (BM P).Code 6000 (startP [(nx : Int)]) cv W3) (hm : MR P v1 ((nx : Int) :: (helpL d b f).1) W3) (hf : MR P v2 (helpL d b f).2 W3) :
    Calls Try.prog 18 #[ptr W3.heap.size, .int .i64 (400 : Nat)] (W3.alloc (.cells #[cv, .int .i64 0] 89)) fun e w' => e = .returned (.bool true) ∧ Al9 w0 P bx ba bn db (t + 1) (nx + 1) v1 v2 w' := by
  have hM := bm_ok P hG
  have hbl : b.length ≤ nx := Nat.le_trans (count_len b fun a => by have := h.gb.cnt a; omega) h.len
  have hi3 := h.si.turns k (by simp)
  have hw3 := hM.okw _ _ _ hi3
  have k4 : Turns [] W3 (W3.alloc (.cells #[cv, .int .i64 0] 89)) := (Turns.refl _ _).alloc _
  have hi4 := hi3.turns k4 (by simp)
  obtain ⟨q', hs', bx', fs', g1, g2, g3, g4, g5, g6⟩ := h.gb.puts (P := P) hP (c := [(nx : Int)]) (by simp) (fun a ha => by rw [List.mem_singleton] at ha; subst ha; omega) (fun a ha hb => by rw [List.mem_singleton] at ha; subst ha; have := h.new _ hb; omega) (by omega) d h.mks (18 + 7 * b.length) (by have := h.few; omega) (by simp; omega)
  obtain ⟨e1, _⟩ := runP_own (P := P) (q := startP [(nx : Int)]) (s := s.bare) s.got s.ends 0 (isP_start _) (18 + 7 * b.length)
  rw [BSt.own_bare] at e1
  have hend : (BM P).ended ((BM P).runN (startP [(nx : Int)]) s 0 (18 + 7 * b.length)).1 = true := by rw [e1]; exact g3
  have hst : ((BM P).runN (startP [(nx : Int)]) s 0 (18 + 7 * b.length)).2.1 = ((BM P).runN (startP [(nx : Int)]) s.bare 0 (18 + 7 * b.length)).2.1.own s.got s.ends := by rw [e1]
  have tk := (Gm.Task.made hM hw3 hc).to (m := 20 * (60 - t) + 160 * (20 - nx) + 4 * b.length) (by omega)
  have hmore := h.gb.moreP (c := [(nx : Int)]) (by simp) (fun a ha => by rw [List.mem_singleton] at ha; subst ha; omega) (fun a ha hb => by rw [List.mem_singleton] at ha; subst ha; have := h.new _ hb; omega)
  refine (finish_e hM 400 (m0 := 18 + 7 * b.length) (by omega) (by omega) (by omega) tk hi4 hend (fun j hj _ => ?_) (by omega)).mono ?_
  · have hwj := hmore.w_alone hP (by omega) (Nat.lt_succ_self N) 0 j (by have := h.few; omega)
    rw [updF_same] at hwj
    obtain ⟨e2, _⟩ := runP_own (P := P) (q := startP [(nx : Int)]) (s := s.bare) s.got s.ends 0 (isP_start _) j
    rw [BSt.own_bare] at e2
    rw [e2]
    exact hwj
  · rintro e w' ⟨rfl, _, a2, a3, a4⟩
    rw [hst] at a2
    generalize ((BM P).runN (startP [(nx : Int)]) s.bare 0 (18 + 7 * b.length)).2.1 = s1 at *
    have hp2 : (bx', fs') = ((nx : Int) :: (helpL d b f).1, (helpL d b f).2) := g2
    injection hp2 with p1 p2
    subst p1
    subst p2
    have hhl := helpL_len d b f
    have a3 : Fr (W3.heap.size :: P.L) P.ws (W3.alloc (.cells #[cv, .int .i64 0] 89)) w' := a3
    have a4 : Mv P.B (P.L ++ P.ex) P.ws (W3.alloc (.cells #[cv, .int .i64 0] 89)) w' := a4
    have hty := hi4.types (Lies.new W3 89 #[cv, .int .i64 0])
    obtain ⟨cs, hl⟩ := hdl
    have hl4 := (hl.turn k (by simp)).turn k4 (by simp)
    have dbo := off_types hl4 hty (by decide) (by decide) (by decide) (by decide)
    have dbr := (hi4.apart_ty hl4 (by decide) (by decide) (by decide) (by decide)).2
    have m1 := (hw3.mv hM k4).trans a4
    have be4 : Below P.B w0 (W3.alloc (.cells #[cv, .int .i64 0] 89)) := hbe.trans ((k.trans k4).below (by simp) (hM.okw _ _ _ h.si).base)
    refine ⟨rfl, ⟨⟨s1.own s.got s.ends, N + 1, T + (18 + 7 * b.length), all ++ [(nx : Int)], q', hs', _, _, d, BI.down hG a2 (by simp only [List.length_cons]; omega), g1.same rfl (by rw [g4]; rfl), g6, by have := h.few; omega, fun a ha => ?_, by rw [List.length_append]; have := h.len; simp; omega, ?_, ?_, fun i hi => ?_⟩, ⟨cs, a3.lies hl4 dbo dbr⟩, (hctx.turns hG h.si k (by simp) (by simp)).mv m1, be4.trans (BI.below hG hi4 (fun y hy => ?_) a3), by omega⟩⟩
    · rcases List.mem_append.1 ha with h1 | h1
      · have := h.new a h1; omega
      · rw [List.mem_singleton] at h1; subst h1; omega
    · exact (hm.turns hG hi3 k4).past hG hi4 a3 hty (.inr rfl)
    · exact (hf.turns hG hi3 k4).past hG hi4 a3 hty (.inr rfl)
    · exact (a3.cell (p := ⟨db, i, none⟩) hl4.lt dbo dbr).trans (((k.trans k4).cell (p := ⟨db, i, none⟩) hl.lt (by simp)).trans (h.dead i hi))
    · rcases List.mem_cons.1 hy with h1 | h1
      · right; rw [h1]; exact hw3.base
      · exact .inl h1
end

end Go.Proofs.Ytgdonejclggjlaa

/- The inbox: one task alone, act by act: a drain, and a ticket that dies. -/
namespace Go.Proofs.Ytgdonejclggjlaa
open Go.RowKit Go.ChangeShapes Go.WideShapes
set_option maxRecDepth 100000

section
variable {w0 : World} {P : BP} {bx ba bn db t nx N T ob : Nat} {mv fv v1 v2 cv : Value} {W W1 W2 W3 : World} {s : BSt} {all b f : List Int} {q : Nat → BPr} {hs : Nat → List Int} {d : Int → Bool}
/-- the machine of a new owner. -/
def BP.at (P : BP) (ob : Nat) : BP := ⟨P.p, P.c, P.B, 20, ob, []⟩
/-- an owner of old, behind the steps of a task of another. -/
theorem BI.swap {P : BP} {r r' : Nat} {s s1 : BSt} {L : List Nat} {ws : List Addr} {W W' : World} (h : BI P r s W) (f : Fr L ws W W') (har : Arena W' P.p P.c s1.l s1.k) (hroom : s1.k + r' ≤ 4611686018427387904) (hok : BOk P.n s1.l) (hob : P.ob ∉ L) (hrw : ∀ b, ¬ Rw ws W b) (hint : ∀ b cur, Lies W b 3 cur → b ∉ L) (hr : r' ≤ r) (hx : P.ex = []) : BI P r' (s1.own s.got s.ends) W' := by
  have own : ∀ {v : Value} {n : Nat} {xs : List Value}, W.ownsRow P.B 3 1 v n xs → W'.ownsRow P.B 3 1 v n xs := fun hr => own_keep hr fun g hg => by
    obtain ⟨_, cur, hl⟩ := own_block hr hg
    exact f.block g hl.lt (hint g cur hl) (hrw g)
  obtain ⟨v, u, hl, hv, hu, hne⟩ := h.ow
  have hz := h.size
  exact ⟨har, hroom, hok, ⟨v, u, f.lies hl hob (hrw _), own hv, own hu, hne⟩, h.hg, h.he, ⟨by show s.got.length + r' ≤ 5000; omega, by show s.ends.length + r' ≤ 5000; omega⟩, fun b hb => by rw [hx] at hb; cases hb⟩

/-- a new owner's machine. -/
theorem Alc.owner (hG : P.Good) (hP : P.n = 20) (h : Alc P db t nx mv fv W s N T all q hs b f d) (hctx : BCtx P bx ba bn W) (hnx : nx ≤ 20) (k : Turns [] W W1) (hob : W.heap.size ≤ ob) (lo : Lies W1 ob 72 #[.slice none 0 0, .slice none 0 0]) :
    (P.at ob).Good ∧ BI (P.at ob) (20 * (60 - t) + 160 * (20 - nx) + 4 * b.length) s.bare W1 ∧ BCtx (P.at ob) bx ba bn W1 ∧ ∀ b, ¬ Rw (P.at ob).ws W1 b := by
  have hi := h.si.turns k (by simp)
  have hx := hctx.turns hG h.si k (by simp) (by simp)
  have hB := ((bm_ok P hG).okw _ _ _ h.si).base
  have hB : P.B ≤ W.heap.size := hB
  have hbl : b.length ≤ nx := Nat.le_trans (count_len b fun a => by have := h.gb.cnt a; omega) h.len
  have hn := hx.xn.l
  have hok := hi.ok
  rw [hP] at hn hok
  exact begin9 (r := 20 * (60 - t) + 160 * (20 - nx) + 4 * b.length) hi.ar hi.room hok lo hx.box.l hx.xa.l hn hG.low.1 hG.low.2.1 (by omega) (by omega) (by omega) (by simp) (by simp)
theorem Alc.code (hG : P.Good) (hP : P.n = 20) (h : Alc P db t nx mv fv W s N T all q hs b f d) (hctx : BCtx P bx ba bn W) (hnx : nx ≤ 20) (k : Turns [] W W1) (hob : W.heap.size ≤ ob) (lo : Lies W1 ob 72 #[.slice none 0 0, .slice none 0 0]) :
    (BM (P.at ob)).Makes 6000 (startD 1) 31 #[bxP P #[ptr ba, ptr bn], .int .i64 1, ptr ob] W1 := by
  obtain ⟨h1, h2, _⟩ := h.owner hG hP hctx hnx k hob lo
  exact drains_g (P.at ob) h1 (dcap := #[ptr ba, ptr bn]) 6000 1 (by omega) W1 ((bm_ok _ h1).okw _ _ _ h2)

/-- all is drained. -/
theorem Alc.drain (hG : P.Good) (hP : P.n = 20) (hx : P.ex = []) (h : Alc P db t nx mv fv W s N T all q hs b f d) (hdl : ∃ cs, Lies W db 4 cs) (hctx : BCtx P bx ba bn W) (hbe : Below P.B w0 W) (hnx : nx ≤ 20) (ht : t < 60) (k : Turns [] W W3) (hob : W.heap.size ≤ ob) (lo : Lies W3 ob 72 #[.slice none 0 0, .slice none 0 0]) (hc : (BM (P.at ob)).Code 6000 (startD 1) cv W3) :
    Calls Try.prog 18 #[ptr W3.heap.size, .int .i64 (100 : Nat)] (W3.alloc (.cells #[cv, .int .i64 0] 89)) fun e w' => e = .returned (.bool true) ∧ (∃ v, w'.cell? ⟨ob, 0, none⟩ = some v ∧ IRow w' P.B v b) ∧ MR P mv b w' ∧ Al9 w0 P bx ba bn db (t + 1) nx (.slice none 0 0) fv w' := by
  obtain ⟨hG1, hi3, hx3, hrw3⟩ := h.owner hG hP hctx hnx k hob lo
  have hM := bm_ok (P.at ob) hG1
  have hP1 : (P.at ob).n = 20 := rfl
  have hbl : b.length ≤ nx := Nat.le_trans (count_len b fun a => by have := h.gb.cnt a; omega) h.len
  have hw3 := hM.okw _ _ _ hi3
  have k4 : Turns [] W3 (W3.alloc (.cells #[cv, .int .i64 0] 89)) := (Turns.refl _ _).alloc _
  have hi4 := hi3.turns k4 (by simp)
  have ho4 := (h.si.turns k (by simp)).turns k4 (by simp)
  have hrw4 : ∀ b, ¬ Rw (P.at ob).ws (W3.alloc (.cells #[cv, .int .i64 0] 89)) b := fun b hb => hrw3 b (BI.rows_turns hG1 hi3 k4 (by simp) hb)
  obtain ⟨q', hs', bx', g1, g2, g3, g4, g5, g6⟩ := h.gb.drains (P := P.at ob) hP1 0 (by omega) d h.mks (6 + 3 * b.length) (by have := h.few; omega) (by omega)
  subst g2
  have hmore := h.gb.moreD 1
  have tk := (Gm.Task.made hM hw3 hc).to (m := 20 * (60 - t) + 160 * (20 - nx) + 4 * b.length) (by omega)
  refine (finish_e hM 100 (m0 := 6 + 3 * b.length) (by omega) (by omega) (by omega) tk hi4 g3 (fun j hj _ => ?_) (by omega)).mono ?_
  · have hwj := hmore.w_alone hP1 (by omega) (Nat.lt_succ_self N) 0 j (by have := h.few; omega)
    rw [updF_same] at hwj
    exact hwj
  · rintro e w' ⟨rfl, _, a2, a3, a4⟩
    have g1 : Gb 20 (N + 1) (T + (6 + 3 * b.length)) all q' ((BM (P.at ob)).runN (startD 1) s.bare 0 (6 + 3 * b.length)).2.1 hs' [] f := g1
    have g4 : ((BM (P.at ob)).runN (startD 1) s.bare 0 (6 + 3 * b.length)).2.1.got = b := g4
    have g6 : MarksAre 20 ((BM (P.at ob)).runN (startD 1) s.bare 0 (6 + 3 * b.length)).2.1.l d := g6
    generalize ((BM (P.at ob)).runN (startD 1) s.bare 0 (6 + 3 * b.length)).2.1 = s1 at *
    have a3 : Fr (W3.heap.size :: (P.at ob).L) (P.at ob).ws (W3.alloc (.cells #[cv, .int .i64 0] 89)) w' := a3
    have a4 : Mv P.B ((P.at ob).L ++ (P.at ob).ex) (P.at ob).ws (W3.alloc (.cells #[cv, .int .i64 0] 89)) w' := a4
    have hty := hi4.types (Lies.new W3 89 #[cv, .int .i64 0])
    obtain ⟨v0, u0, hl0, _⟩ := h.si.ow
    have hoo : P.ob ≠ ob := by have := hl0.lt; omega
    have hpo : P.ob ∉ W3.heap.size :: (P.at ob).L := fun hm => by
      have hl4 := (hl0.turn k (by simp)).turn k4 (by simp)
      rcases List.mem_cons.1 hm with e | hm
      · rw [e] at hl4
        exact hl4.unlike (Lies.new W3 89 #[cv, .int .i64 0]) (by decide) rfl
      · rcases BP.L_mem.1 hm with e | e | e
        · exact hG.sep.2.1 e
        · exact hG.sep.2.2 e
        · exact hoo e
    have a2' : BI (P.at ob) (20 * (60 - t) + 160 * (20 - nx) + 4 * b.length - (6 + 3 * b.length + 1)) s1 w' := a2
    obtain ⟨v, u, hl, hv, _, _⟩ := a2'.ow
    rw [g4] at hv
    have hirow : IRow w' P.B v b := ⟨hv, fun x hx => ?_⟩
    rotate_left
    · have := h.gb.rng x (h.gb.rebase_mem (by simp [hx]))
      exact WalkArith.wf_i64 (by omega)
    obtain ⟨cs, hl9⟩ := hdl
    have hl4 := (hl9.turn k (by simp)).turn k4 (by simp)
    have dbo := off_types hl4 hty (by decide) (by decide) (by decide) (by decide)
    have hnew : ∀ a, a ∈ [] ++ (f ++ allB (N + 1) hs') → a < (nx : Int) := fun a ha => h.new a (g1.rebase_mem ha)
    have hlen : ([] ++ (f ++ allB (N + 1) hs')).length ≤ nx := Nat.le_trans (count_len _ fun a => by have := g1.cnt a; rw [List.count_append, List.count_append]; omega) h.len
    have hok : BOk P.n s1.l := by rw [hP]; exact a2'.ok
    have hsw : BI P (20 * (60 - (t + 1)) + 160 * (20 - nx) + 4 * ([] : List Int).length) (s1.own s.got s.ends) w' := BI.swap ho4 a3 a2'.ar (by have := a2'.room; simp only [List.length_nil]; omega) hok hpo hrw4 (fun b cur hlb => off_types hlb hty (by decide) (by decide) (by decide) (by decide)) (by simp only [List.length_nil]; omega) hx
    have hmm : MR P mv b w' := ((h.m.turns hG h.si k).turns hG (h.si.turns k (by simp)) k4).past hG ho4 a3 hty (.inl ⟨hrw4, hpo⟩)
    have hff : MR P fv f w' := ((h.f.turns hG h.si k).turns hG (h.si.turns k (by simp)) k4).past hG ho4 a3 hty (.inl ⟨hrw4, hpo⟩)
    have hcx := (hx3.turns hG1 hi3 k4 (by simp) (by simp)).mv a4
    have hcx4 := (hctx.turns hG h.si k (by simp) (by simp)).turns hG (h.si.turns k (by simp)) k4 (by simp) (by simp)
    have be4 : Below P.B w0 (W3.alloc (.cells #[cv, .int .i64 0] 89)) := hbe.trans ((k.trans k4).below (by simp) ((bm_ok P hG).okw _ _ _ h.si).base)
    have y1 := hsw.apart_ty hcx.box.l (by decide) (by decide) (by decide) (by decide)
    have y2 := hsw.apart_ty hcx.xa.l (by decide) (by decide) (by decide) (by decide)
    refine ⟨rfl, ⟨v, hl.cell 0, hirow⟩, hmm, ⟨⟨s1.own s.got s.ends, N + 1, T + (6 + 3 * b.length), [] ++ (f ++ allB (N + 1) hs'), q', hs', [], f, d, hsw, g1.rebase, g6, by have := h.few; omega, hnew, hlen, MR.nil _ _, hff, fun i hi => ?_⟩, ⟨cs, a3.lies hl4 dbo (hrw4 _)⟩, ⟨⟨hcx.box.l, y1.1, y1.2, by decide, by show _ ∉ P.ex; rw [hx]; simp⟩, ⟨hcx.xa.l, y2.1, y2.2, by decide, by show _ ∉ P.ex; rw [hx]; simp⟩, ⟨?_, hsw.apart_int hcx.xn.l, fun q => ?_, by decide, by show _ ∉ P.ex; rw [hx]; simp⟩⟩, be4.trans (show Below P.B _ _ from BI.below (P := P.at ob) hG1 hi4 (fun y hy => ?_) a3), hnx⟩⟩
    · exact (a3.cell (p := ⟨db, i, none⟩) hl4.lt dbo (hrw4 _)).trans (((k.trans k4).cell (p := ⟨db, i, none⟩) hl9.lt (by simp)).trans (h.dead i hi))
    · have := hcx.xn.l
      rw [hP]
      exact this
    · refine hcx4.xn.row (q.same fun x hx' => ?_)
      have hx2 := (bm_ok P hG).cells x hx'
      refine a3.cell (((bm_ok P hG).okw _ _ _ ho4).lt _ hx2) ?_ (hrw4 _)
      rcases BP.ws_mem.1 hx' with rfl | rfl <;> exact hpo
    · rcases List.mem_cons.1 hy with h1 | h1
      · right; rw [h1]; exact hw3.base
      · exact .inl h1

theorem MR.turnsK {r : Nat} {K : List Nat} {v : Value} {xs : List Int} {W W' : World} (hi : BI P r s W) (h : MR P v xs W) (k : Turns K W W') (h1 : ∀ b cur, Lies W b 3 cur → b ∉ K) (h2 : P.ob ∉ K) : MR P v xs W' := by
  obtain ⟨v0, u0, hl0, _⟩ := hi.ow
  refine h.keep k.size fun b cur hl hr => ⟨k.block b hl.lt (h1 b cur hl), fun q => hr (q.same fun x hx => ?_)⟩
  rcases BP.ws_mem.1 hx with rfl | rfl
  · exact k.cell (p := ⟨P.ob, 0, none⟩) hl0.lt h2
  · exact k.cell (p := ⟨P.ob, 1, none⟩) hl0.lt h2
/-- a ticket dies. -/
theorem Alc.dies (hG : P.Good) (hP : P.n = 20) (hxe : P.ex = []) (h : Alc P db t nx mv fv W s N T all q hs b f d) (hdl : ∃ cs, Lies W db 4 cs) (hctx : BCtx P bx ba bn W) (hbe : Below P.B w0 W) (hdb : P.B ≤ db) (hnx : nx ≤ 20) (ht : t < 60) {x : Nat} (hx20 : x < 20) (k : Turns [db] W W3) (hd : ∀ i : Nat, i < 20 → W3.cell? ⟨db, i, none⟩ = if i = x then some (.bool true) else W.cell? ⟨db, i, none⟩) (hl3 : ∃ cs, Lies W3 db 4 cs) :
    Calls Try.prog 32 #[ptr P.p, .int .i64 (22 + (x : Int)), .int .u64 1] W3 fun e w' => (∃ v, e = .returned v) ∧ Al9 w0 P bx ba bn db (t + 1) nx mv fv w' := by
  obtain ⟨cs, hl⟩ := hdl
  obtain ⟨cs3, hl3⟩ := hl3
  obtain ⟨a1, a2⟩ := h.si.apart_ty hl (by decide) (by decide) (by decide) (by decide)
  have hK : ∀ b, b ∈ [db] → b ∉ P.L ∧ ¬ Rw P.ws W b := fun b hb => by rw [List.mem_singleton] at hb; subst hb; exact ⟨a1, a2⟩
  have hi3 := h.si.turns k hK
  have hM := bm_ok P hG
  have hi3' : BI P (20 * (60 - (t + 1)) + 160 * (20 - nx) + 4 * b.length + 1) s W3 := BI.down hG hi3 (by omega)
  have hk := hi3'.ar.k0
  refine (store_any (22 + (x : Int)) 1 (by unfold N64; omega) hi3'.ar (by have := hi3'.room; omega)).mono ?_
  rintro e w' ⟨he, haft⟩
  have e20 : (22 + (x : Int)) = (x : Int) + (2 + ((20 : Nat) : Int)) := by omega
  rw [e20] at haft
  have hok := hi3.ok.dies (t := (x : Int)) (by omega) 1
  rw [hP] at hok
  obtain ⟨hj, _, _⟩ := BI.aft hG hi3' haft (by rw [hP]; exact hok) (by unfold moreA; split <;> omega)
  have hj : BI P (20 * (60 - (t + 1)) + 160 * (20 - nx) + 4 * b.length) { s with l := setA s.l ((x : Int) + (2 + ((20 : Nat) : Int))) 1, k := moreA s.l ((x : Int) + (2 + ((20 : Nat) : Int))) s.k } w' := hj
  have hg := h.gb.dies (t := (x : Int)) (by omega) (moreA s.l ((x : Int) + (2 + ((20 : Nat) : Int))) s.k)
  obtain ⟨v0, u0, hl0, _⟩ := h.si.ow
  have hobK : P.ob ∉ [db] := fun hm => by rw [List.mem_singleton] at hm; rw [hm] at hl0; exact hl0.unlike hl (by decide) rfl
  have hobA : P.ob ∉ [P.p, P.c] := by simp; exact ⟨hG.sep.2.1, hG.sep.2.2⟩
  have iK : ∀ {W : World}, (∃ cs, Lies W db 4 cs) → ∀ b cur, Lies W b 3 cur → b ∉ [db] := fun ⟨_, h1⟩ b cur h2 hm => by rw [List.mem_singleton] at hm; subst hm; exact h2.unlike h1 (by decide) rfl
  have iA : ∀ b cur, Lies W3 b 3 cur → b ∉ [P.p, P.c] := fun b cur h2 hm => by
    simp at hm
    rcases hm with rfl | rfl
    · exact h2.unlike hi3.ar.head (by decide) rfl
    · exact h2.unlike hi3.ar.body (by decide) rfl
  have mk : ∀ {v xs}, MR P v xs W → MR P v xs w' := fun hm => (hm.turnsK h.si k (iK ⟨_, hl⟩) hobK).turnsK hi3 haft.2 iA hobA
  have hty : ∀ {g : Nat} {ty : TypeId} {cs : Array Value}, Lies W3 g ty cs → ty ≠ 101 → ty ≠ 111 → g ∉ [P.p, P.c] := fun l h1 h2 hm => by
    simp at hm
    rcases hm with rfl | rfl
    · exact l.unlike hi3.ar.head h1 rfl
    · exact l.unlike hi3.ar.body h2 rfl
  have out : ∀ {g : Nat} {ty : TypeId} {cs : Array Value}, Lies W g ty cs → ty ≠ 4 → g ∉ [db] := fun l h1 hm => by
    rw [List.mem_singleton] at hm; subst hm; exact l.unlike hl h1 rfl
  have lbx := (hctx.box.l.turn k (out hctx.box.l (by decide)))
  have lba := (hctx.xa.l.turn k (out hctx.xa.l (by decide)))
  have lbn := (hctx.xn.l.turn k (out hctx.xn.l (by decide)))
  have lbx := lbx.turn haft.2 (hty lbx (by decide) (by decide))
  have lba := lba.turn haft.2 (hty lba (by decide) (by decide))
  have lbn' := lbn.turn haft.2 (hty lbn (by decide) (by decide))
  have y1 := hj.apart_ty lbx (by decide) (by decide) (by decide) (by decide)
  have y2 := hj.apart_ty lba (by decide) (by decide) (by decide) (by decide)
  have hlow := hG.low
  have bA : Below P.B W3 w' := haft.2.below (fun b hb => (by
    simp at hb
    rcases hb with rfl | rfl
    · exact hlow.1
    · exact hlow.2.1)) (show P.B ≤ W3.heap.size from (hM.okw _ _ _ hi3).base)
  have bK : Below P.B W W3 := k.below (fun b hb => (by
    rw [List.mem_singleton] at hb
    subst hb
    exact hdb)) (show P.B ≤ W.heap.size from (hM.okw _ _ _ h.si).base)
  have hbw : Below P.B w0 w' := hbe.trans (bK.trans bA)
  refine ⟨⟨_, he⟩, ⟨⟨_, N, T, all, q, hs, b, f, fun y => if y = (x : Int) then true else d y, hj, hg.same rfl rfl, fun y hy1 hy2 => ?_, by have := h.few; omega, h.new, h.len, mk h.m, mk h.f, fun i hi => ?_⟩, ⟨_, hl3.turn haft.2 (hty hl3 (by decide) (by decide))⟩, ⟨⟨lbx, y1.1, y1.2, by decide, by show _ ∉ P.ex; rw [hxe]; simp⟩, ⟨lba, y2.1, y2.2, by decide, by show _ ∉ P.ex; rw [hxe]; simp⟩, ⟨lbn', hj.apart_int lbn', fun q => ?_, by decide, by show _ ∉ P.ex; rw [hxe]; simp⟩⟩, hbw, hnx⟩⟩
  · have hlen : s.l.length = 2 + 2 * 20 := by have := h.gb.ok.len; exact this
    have hd0 := h.mks y hy1 hy2
    rw [getA_setA]
    by_cases e : y = (x : Int)
    · subst e
      rw [if_pos ⟨rfl, by unfold hasA; simp; omega⟩]
      simp
    · rw [if_neg (fun hh => e (by omega))]
      simp only [if_neg e]
      exact hd0
  · rw [haft.2.cell (p := ⟨db, i, none⟩) hl3.lt (hty hl3 (by decide) (by decide)), hd i hi]
    by_cases e : i = x
    · subst e
      simp
    · rw [if_neg e, if_neg (by omega)]
      exact h.dead i hi
  · refine hctx.xn.row (q.same fun a ha => ?_)
    rcases BP.ws_mem.1 ha with rfl | rfl
    · exact (haft.2.cell (p := ⟨P.ob, 0, none⟩) (hl0.turn k hobK).lt hobA).trans (k.cell (p := ⟨P.ob, 0, none⟩) hl0.lt hobK)
    · exact (haft.2.cell (p := ⟨P.ob, 1, none⟩) (hl0.turn k hobK).lt hobA).trans (k.cell (p := ⟨P.ob, 1, none⟩) hl0.lt hobK)
end

end Go.Proofs.Ytgdonejclggjlaa

/- The inbox: the document's example leaves an owner behind. -/
namespace Go.Proofs.Ytgdonejclggjlaa
open Go.RowKit Go.ChangeShapes Go.WideShapes
set_option maxRecDepth 100000

set_option maxHeartbeats 2000000 in
theorem speaks9x_any (w : World) : Calls Try.prog 27 #[] w fun e w' => e = .returned (.bool true) ∧ Below w.heap.size w w' ∧ ∃ Pg sg, Pg.Good ∧ Pg.B = w.heap.size ∧ BI Pg 0 sg w' ∧ sg.got.length ≤ 100 ∧ sg.ends.length ≤ 100 := by
  have hf := fresh9_any 3 (by omega) w
  have hmf := hmf_run
  have y2 := fun (a : Addr) (f : FuncId) (c : Array Value) (w : World) => run_store Try.prog w a (.func (.func f) #[] c) .plain rfl
  go_enter Try.func27, Try.ntmps27
  go_wp2_with fail
  refine (show Calls Try.prog 28 #[.int .i64 3] _ _ from hf).mono ?_
  rintro e w1 ⟨p, c, bn, ba, rfl, ha, hb, hc, hp, hbn, hba, la, ln⟩
  clear hf
  have hb1 := hb.size
  have z1 := ha.head.lt
  obtain ⟨h1, hh⟩ : ∃ h1, w1.heap.size = h1 := ⟨_, rfl⟩
  obtain ⟨W2, hW2⟩ : ∃ W2, (w1.alloc (.cells (bxC p 0 1 46 47 #[] #[ptr ba, ptr bn]) 62)).alloc (.cells #[.slice none 0 0, .slice none 0 0] 72) = W2 := ⟨_, rfl⟩
  have k2 : Turns [] w1 W2 := by rw [← hW2]; exact ((Turns.refl _ _).alloc _).alloc _
  have lb : Lies W2 h1 62 (bxC p 0 1 46 47 #[] #[ptr ba, ptr bn]) := by rw [← hW2, ← hh]; exact (Lies.new _ _ _).alloc _
  have lo : Lies W2 (h1 + 1) 72 #[.slice none 0 0, .slice none 0 0] := by rw [← hW2]; exact Lies.new_of _ _ (by simp [hh])
  have z2 : W2.heap.size = h1 + 1 + 1 := by rw [← hW2]; simp [hh]
  obtain ⟨hG, hI, hX, hR0⟩ := begin9 (W := W2) (B := w.heap.size) (r := 80) (ex := []) (ha.turn k2 (by simp) (by simp)) (by omega) (bok_zero 3) lo lb (la.turn k2 (by simp)) (ln.turn k2 (by simp)) (by omega) hc (by omega) (by omega) (by omega) (by simp) (by simp)
  have hg := seqF_zero 3 [1, 2] [] 0
  obtain ⟨P, hP⟩ : ∃ P, (⟨p, c, w.heap.size, 3, h1 + 1, []⟩ : BP) = P := ⟨_, rfl⟩
  have gp : P.n = 3 ∧ P.B = w.heap.size ∧ P.ob = h1 + 1 ∧ P.p = p ∧ P.ex = [] := by rw [← hP]; exact ⟨rfl, rfl, rfl, rfl, rfl⟩
  rw [hP] at hG hI hX hR0
  obtain ⟨s0, hs0⟩ : ∃ s0, (⟨List.replicate (2 + 2 * 3) 0, 0, [], []⟩ : BSt) = s0 := ⟨_, rfl⟩
  have hI : BI P 80 s0 W2 := by rw [← hs0]; exact hI
  rw [hs0] at hg
  have hM := bm_ok P hG
  have b2 : Below w.heap.size w W2 := hb.trans (k2.below (by simp) hb1)
  have hPut : ∀ W, Turns [] W2 W → Lies W (h1 + 1 + 1) 3 #[.int .i64 1, .int .i64 2] → (BM P).Makes 80 (startP [1, 2]) 30 #[bxP P #[ptr ba, ptr bn], .slice (some ⟨h1 + 1 + 1, 0, none⟩) 2 2, .nilFunc] W := fun W t l => by
    have hi := hI.turns t (by simp)
    have hx := hX.turns hG hI t (by simp) (by simp)
    refine puts_g hG (ba := ba) (bn := bn) 80 [1, 2] (by rw [gp.1]; decide) (some ⟨h1 + 1 + 1, 0, none⟩) 2 W 80 s0 (Nat.le_refl _) hi ⟨by decide, fun _ => ⟨_, rfl, l.lt, fun hm => (List.mem_append.1 hm).elim (hi.apart_int l) (by rw [gp.2.2.2.2]; simp), fun q => hR0 _ (BI.rows_turns hG hI t (by simp) q), fun q => q.ne l (by decide), fun i h => ?_⟩⟩ hx.xa hx.xn
    rw [add_head4, l.cell i]
    have h : i < 2 := h
    rcases (by omega : i = 0 ∨ i = 1) with rfl | rfl <;> rfl
  have hDr : ∀ W, Turns [] W2 W → (BM P).Makes 80 (startD 1) 31 #[bxP P #[ptr ba, ptr bn], .int .i64 1, ptr (h1 + 1)] W := fun W t => by
    have := drains_g P hG (dcap := #[ptr ba, ptr bn]) 80 1 (by omega) W (hM.okw _ _ _ (hI.turns t (by simp)))
    rw [gp.2.2.1] at this
    exact this
  have hA : bxP P #[ptr ba, ptr bn] = bxV p 0 1 46 47 #[] #[ptr ba, ptr bn] := by rw [← gp.2.2.2.1]
  rw [hA] at hPut hDr
  obtain ⟨c0, c1, c2, c3, c4, c5, c6⟩ := hX.cells
  rw [gp.2.2.2.1] at c0 c4
  have g0 := hX.box.lt
  have HI := Lib.hid hI
  have HX := Lib.hid (And.intro hX gp)
  have HG := Lib.hid hg
  clear hI hX hR0 hg k2 lb lo ha la ln hP hs0 hA hb hM gp
  unfold Gm.Makes at hPut hDr
  go_upto_region 5 with (fail)
  try rw [hh]
  try rw [hW2]
  clear hW2
  have kA := And.intro ((((Turns.refl [] W2).drew.alloc (.cells #[.int .i64 1, .int .i64 2] 3)).cell (p := ⟨h1, 0, none⟩) g0 (by simp)).trans c0) (And.intro ((((Turns.refl [] W2).drew.alloc (.cells #[.int .i64 1, .int .i64 2] 3)).cell (p := ⟨h1, 1, none⟩) g0 (by simp)).trans c1) (And.intro ((((Turns.refl [] W2).drew.alloc (.cells #[.int .i64 1, .int .i64 2] 3)).cell (p := ⟨h1, 2, none⟩) g0 (by simp)).trans c2) (And.intro ((((Turns.refl [] W2).drew.alloc (.cells #[.int .i64 1, .int .i64 2] 3)).cell (p := ⟨h1, 3, none⟩) g0 (by simp)).trans c3) (And.intro ((((Turns.refl [] W2).drew.alloc (.cells #[.int .i64 1, .int .i64 2] 3)).cell (p := ⟨h1, 4, none⟩) g0 (by simp)).trans c4) (And.intro ((((Turns.refl [] W2).drew.alloc (.cells #[.int .i64 1, .int .i64 2] 3)).cell (p := ⟨h1, 5, none⟩) g0 (by simp)).trans c5) ((((Turns.refl [] W2).drew.alloc (.cells #[.int .i64 1, .int .i64 2] 3)).cell (p := ⟨h1, 6, none⟩) g0 (by simp)).trans c6))))))
  go_region_held3 (fun W' => W'.cell? ⟨h1, 0, none⟩ = some (ptr p) ∧ W'.cell? ⟨h1, 1, none⟩ = some (.int .i64 0) ∧ W'.cell? ⟨h1, 2, none⟩ = some (.func (.func 46) #[] #[]) ∧ W'.cell? ⟨h1, 3, none⟩ = some (.func (.func 47) #[] #[ptr ba, ptr bn]) ∧ W'.cell? ⟨h1, 4, none⟩ = some (ptr p) ∧ W'.cell? ⟨h1, 5, none⟩ = some (.int .i64 1) ∧ W'.cell? ⟨h1, 6, none⟩ = some (.func (.func 46) #[] #[]))
    (first | exact ⟨c0, c1, c2, c3, c4, c5, c6⟩ | exact kB | exact kA | exact kC | exact kE)
    (first
      | (refine (hDr _ t3).mono ?_
         rintro e w4 ⟨v4, rfl, hc4, t4⟩
         obtain ⟨f4, cap4, rfl⟩ := hc4.func rfl
         have t5 := t3.trans t4
         have kE := And.intro (((t5.alloc (.cells #[.func (.func f3) #[] cap3, .func (.func f4) #[] cap4] 38)).cell (p := ⟨h1, 0, none⟩) g0 (by simp)).trans c0) (And.intro (((t5.alloc (.cells #[.func (.func f3) #[] cap3, .func (.func f4) #[] cap4] 38)).cell (p := ⟨h1, 1, none⟩) g0 (by simp)).trans c1) (And.intro (((t5.alloc (.cells #[.func (.func f3) #[] cap3, .func (.func f4) #[] cap4] 38)).cell (p := ⟨h1, 2, none⟩) g0 (by simp)).trans c2) (And.intro (((t5.alloc (.cells #[.func (.func f3) #[] cap3, .func (.func f4) #[] cap4] 38)).cell (p := ⟨h1, 3, none⟩) g0 (by simp)).trans c3) (And.intro (((t5.alloc (.cells #[.func (.func f3) #[] cap3, .func (.func f4) #[] cap4] 38)).cell (p := ⟨h1, 4, none⟩) g0 (by simp)).trans c4) (And.intro (((t5.alloc (.cells #[.func (.func f3) #[] cap3, .func (.func f4) #[] cap4] 38)).cell (p := ⟨h1, 5, none⟩) g0 (by simp)).trans c5) (((t5.alloc (.cells #[.func (.func f3) #[] cap3, .func (.func f4) #[] cap4] 38)).cell (p := ⟨h1, 6, none⟩) g0 (by simp)).trans c6))))))
         have kC := And.intro ((t5.cell (p := ⟨h1, 0, none⟩) g0 (by simp)).trans c0) (And.intro ((t5.cell (p := ⟨h1, 1, none⟩) g0 (by simp)).trans c1) (And.intro ((t5.cell (p := ⟨h1, 2, none⟩) g0 (by simp)).trans c2) (And.intro ((t5.cell (p := ⟨h1, 3, none⟩) g0 (by simp)).trans c3) (And.intro ((t5.cell (p := ⟨h1, 4, none⟩) g0 (by simp)).trans c4) (And.intro ((t5.cell (p := ⟨h1, 5, none⟩) g0 (by simp)).trans c5) ((t5.cell (p := ⟨h1, 6, none⟩) g0 (by simp)).trans c6)))))))
      | (refine (hPut _ ((Turns.refl [] W2).drew.alloc _) (Lies.new_of _ _ (by simp [z2]))).mono ?_
         rintro e w3 ⟨v3, rfl, hc3, t3⟩
         obtain ⟨f3, cap3, rfl⟩ := hc3.func rfl
         have t3 := ((Turns.refl [] W2).drew.alloc _).trans t3
         have kB := And.intro ((t3.cell (p := ⟨h1, 0, none⟩) g0 (by simp)).trans c0) (And.intro ((t3.cell (p := ⟨h1, 1, none⟩) g0 (by simp)).trans c1) (And.intro ((t3.cell (p := ⟨h1, 2, none⟩) g0 (by simp)).trans c2) (And.intro ((t3.cell (p := ⟨h1, 3, none⟩) g0 (by simp)).trans c3) (And.intro ((t3.cell (p := ⟨h1, 4, none⟩) g0 (by simp)).trans c4) (And.intro ((t3.cell (p := ⟨h1, 5, none⟩) g0 (by simp)).trans c5) ((t3.cell (p := ⟨h1, 6, none⟩) g0 (by simp)).trans c6)))))))
      )
  all_goals
    clear kA kB kC kE hPut hDr c0 c1 c2 c3 c4 c5 c6 g0 y2 hmf
    have hM := bm_ok P hG
    obtain ⟨hX, gp⟩ := HX.out
    have k6 : Turns [] w4 (w4.alloc (.cells #[.func (.func f3) #[] cap3, .func (.func f4) #[] cap4] 38)) := (Turns.refl _ _).alloc _
    have l6 : Lies (w4.alloc (.cells #[.func (.func f3) #[] cap3, .func (.func f4) #[] cap4] 38)) w4.heap.size 38 #[.func (.func f3) #[] cap3, .func (.func f4) #[] cap4] := Lies.new _ _ _
    obtain ⟨W6, hW6⟩ : ∃ W6, w4.alloc (.cells #[.func (.func f3) #[] cap3, .func (.func f4) #[] cap4] 38) = W6 := ⟨_, rfl⟩
    rw [hW6] at k6 l6
    try rw [hW6]
    have t26 := t5.trans k6
    have hI4 := HI.out.turns t5 (by simp)
    have hI3 := HI.out.turns t3 (by simp)
    have m46 := (hM.okw _ _ _ hI4).mv hM k6
    have m36 := ((hM.okw _ _ _ hI3).mv hM t4).trans m46
    obtain ⟨cv, hcv⟩ : ∃ cv : Nat → Value, (fun k => match k with | 0 => .func (.func f3) #[] cap3 | _ => .func (.func f4) #[] cap4) = cv := ⟨_, rfl⟩
    have seq : Seq9 w P h1 ba bn w.heap.size w4.heap.size 40 2 (seqP [1, 2] []) cv (SeqF 3 [1, 2] []) 0 W6 := by
      refine ⟨⟨s0, HI.out.turns t26 (by simp), HG.out⟩, fun k _ hk => ?_, ⟨_, l6, fun k hk => ?_⟩, hX.turns hG HI.out t26 (by simp) (by simp), b2.trans (t26.below (by simp) (by omega))⟩
      · rw [← hcv]
        rcases (by omega : k = 0 ∨ k = 1) with rfl | rfl
        · exact hc3.mv m36
        · exact hc4.mv m46
      · rw [← hcv]
        rcases (by omega : k = 0 ∨ k = 1) with rfl | rfl <;> rfl
    have hD : Does9 P 40 2 (seqP [1, 2] []) (SeqF 3 [1, 2] []) := seqF_next gp.1 (by omega) (by omega) (by omega) (by decide) (by decide) (by decide) (.inr (by omega)) (by decide)
    have HO := Lib.hid gp
    clear hcv hc3 hc4 m36 m46 hI3 hI4 t26 t5 t4 t3 k6 l6 hX gp HX hW6 HI HG hM b2
    obtain ⟨g, hg⟩ : ∃ g, w4.heap.size = g := ⟨_, rfl⟩
    rw [hg] at seq
    try rw [hg]
    clear hg
    have HD := Lib.hid hD
    clear hD
    go_wp2_with fail
    go_loopw [5, 6, 23] (fun _ _ i W => ∃ j : Nat, i = .int .i64 (j : Int) ∧ j ≤ 2 ∧ Seq9 w P h1 ba bn w.heap.size g 40 2 (seqP [1, 2] []) cv (SeqF 3 [1, 2] []) j W) (fun _ _ i _ => 2 - (intOf i).toNat)
    case atStart => exact ⟨0, rfl, by omega, seq⟩
    case round =>
      clear seq
      obtain ⟨j, rfl, hj, seq⟩ := hrel
      generalize wr = W at *
      by_cases hj2 : j < 2
      · obtain ⟨hcell, hcode⟩ := seq.cell hj2
        have hn := newtask_any (cv j) hcode W
        have hfin := seq.next hG HD.out (by rw [HO.out.2.1]; exact Nat.le_refl _) hj2 (by omega)
        clear seq
        generalize cv j = v at *
        rcases hcode with rfl | ⟨fv, capv, rfl⟩
        all_goals
          go_wp2_with fail
          refine hn.mono ?_
          rintro e W1 ⟨rfl, hw1⟩
          rw [hw1] at hfin
          clear hw1
          go_wp2_with fail
          refine (show Calls Try.prog 18 #[ptr W.heap.size, .int .i64 40] _ _ from hfin).mono ?_
          rintro e W2' ⟨rfl, hs⟩
          go_wp2
          go_roundw
          case rel => exact ⟨j + 1, by go_num, by omega, hs⟩
          case measure => simp [intOf]; omega
      · obtain rfl : j = 2 := by omega
        obtain ⟨s, hs, _, _, _, _, _, _, _, hgot, hends⟩ := seq.si
        have be := seq.be
        obtain ⟨v, u, hl, hv, _, _⟩ := hs.ow
        have hgot : s.got = [2, 1] := hgot
        have hends : s.ends = [2] := hends
        have hle : s.got.length ≤ 100 ∧ s.ends.length ≤ 100 := by rw [hgot, hends]; exact ⟨by decide, by decide⟩
        clear hends
        rw [hgot] at hv
        have hob : P.ob = h1 + 1 := HO.out.2.2.1
        rw [hob] at hl
        have hrx : IRow W P.B v [2, 1] := ⟨hv, by intro y hy; simp at hy; rcases hy with rfl | rfl <;> decide⟩
        obtain ⟨A, cx, rfl, hrw⟩ := hrx.row
        have c9 : W.cell? ⟨h1 + 1, 0, none⟩ = some (.slice A 2 cx) := hl.cell 0
        have hlit := IRow.lit W (B := w.heap.size) [2, 1] #[.int .i64 2, .int .i64 1] rfl be.size hrx.ints (by simp)
        obtain ⟨A', c', e', hrw'⟩ := hlit.row
        have bz : Below W.heap.size W (W.alloc (.cells #[.int .i64 2, .int .i64 1] 3)) := (Below.refl _ _).alloc (Nat.le_refl _) _
        have hsm := rsame_any A A' 2 cx c' [2, 1] _ (hrw.keep (Nat.le_refl _) bz) hrw'
        injection e' with ea eb ec
        subst ea
        subst ec
        clear eb
        have b10 := be.trans (bz.mono be.size)
        have hz := b10.size
        have HSI := Lib.hid hs
        have kz : Turns [] W (W.alloc (.cells #[.int .i64 2, .int .i64 1] 3)) := (Turns.refl _ _).alloc _
        clear seq hs hl hv hrx hlit hrw hrw' bz
        go_wp2_with fail
        refine hsm.mono ?_
        rintro e w10 ⟨rfl, hz10⟩
        go_wp2
        go_ret
        exact ⟨rfl, b10.trans (hz10.mono hz), P, s, hG, HO.out.2.1, BI.down hG (HSI.out.turns (kz.trans (Turns.of_below hz10 (Nat.le_refl _))) (by simp)) (Nat.zero_le _), hle⟩

end Go.Proofs.Ytgdonejclggjlaa

/- The inbox: one task alone: the walk. -/
namespace Go.Proofs.Ytgdonejclggjlaa
open Go.RowKit Go.ChangeShapes Go.WideShapes
set_option maxRecDepth 100000

def actKinds9 : List IntKind := [.i64, .i64]
abbrev Acts (w : World) (A : Option Addr) (n : Nat) (F : Nat → Nat → Int) : Prop := SRow w actKinds9 A n F
theorem Acts.opened {H : Type} {enc : TypeId × Value → H} {w : World} {base : Nat} {spare : Nat → Bool} {held : Bool} {a : Option Addr} {n c : Nat} {d : DataW H} {p : List MemPlace}
    (h : DataW.Trod enc Try.prog w base spare held 59 (.slice a n c) d p) : ∃ F, Acts w a n F := by
  refine SRow.opened Try.underlying59 Try.underlying66 (by kernel_rfl) (by decide) ?_ h
  intro j k hj
  match j, hj with
  | 0, hj => cases hj; exact ⟨_, rfl, rfl, by kernel_rfl, Try.underlying3⟩
  | 1, hj => cases hj; exact ⟨_, rfl, rfl, by kernel_rfl, Try.underlying3⟩
  | j + 2, hj => simp [actKinds9] at hj
theorem Acts.at2 {w : World} {A : Option Addr} {n : Nat} {F : Nat → Nat → Int} (h : Acts w A n F) (i : Nat) (hi : i < n) : ∃ a, A = some a ∧ a.block < w.heap.size ∧ w.cell? (a.add (i * 2)) = some (.int .i64 (F i 0)) ∧ w.cell? ⟨(a.add (i * 2)).block, (a.add (i * 2)).off + 1, none⟩ = some (.int .i64 (F i 1)) ∧ (-9223372036854775808 ≤ F i 0 ∧ F i 0 ≤ 9223372036854775807) ∧ (-9223372036854775808 ≤ F i 1 ∧ F i 1 ≤ 9223372036854775807) := by
  obtain ⟨a, e, hb, hc⟩ := h.at_ (by omega)
  have hc' : ∀ (j : Nat) (k : IntKind), actKinds9[j]? = some k → w.cell? ((a.add (i * 2)).add j) = some (.int k (F i j)) := fun j k hk => by rw [Go.Deep.add_add]; exact hc i j k hi hk
  refine ⟨a, e, hb, hc i 0 _ hi rfl, ?_, i64_of_wf (h.wf i 0 _ hi rfl), i64_of_wf (h.wf i 1 _ hi rfl)⟩
  have := hc' 1 _ rfl
  rwa [add_past] at this

section
variable {w0 : World} {P : BP} {bx ba bn db t nx N T ob : Nat} {mv fv v1 v2 cv : Value} {W W1 W2 W3 W5 W6 : World} {s : BSt} {all b f xs1 xs2 : List Int} {q : Nat → BPr} {hs : Nat → List Int} {d : Int → Bool}
theorem Al9.skip (hG : P.Good) (h : Al9 w0 P bx ba bn db t nx mv fv W) : Al9 w0 P bx ba bn db (t + 1) nx mv fv W := by
  obtain ⟨s, N, T, all, q, hs, b, f, d, h1, h2, h3, h4, h5, h6, h7, h8, h9⟩ := h.at_
  exact ⟨⟨s, N, T, all, q, hs, b, f, d, BI.down hG h1 (by omega), h2, h3, by omega, h5, h6, h7, h8, h9⟩, h.dl, h.ctx, h.be, h.nx⟩
theorem Alc.ref (hG : P.Good) (h : Alc P db t nx mv fv W s N T all q hs b f d) (r1 : IRow W6 W.heap.size v1 xs1) (r2 : Rd W fv f v2 xs2 W6) (k : Turns [] W6 W3) : MR P v1 xs1 W3 ∧ MR P v2 xs2 W3 := by
  have t6 : Turns [] W W6 := Turns.of_below r2.be (Nat.le_refl _)
  have hi6 := h.si.turns t6 (by simp)
  exact ⟨(MR.new hG h.si t6 r1).turns hG hi6 k, (MR.rd hG h.si t6 h.f r2).turns hG hi6 k⟩
/-- what the box tells, and what is free. -/
theorem Al9.told (hG : P.Good) (hP : P.n = 20) (h : Al9 w0 P bx ba bn db t nx mv fv W) : ∃ b f, MR P mv b W ∧ MR P fv f W ∧
    (∀ W1, Turns [] W W1 → Calls Try.prog 33 #[bxP P #[ptr ba, ptr bn]] W1 fun e w' => ∃ v, e = .returned v ∧ IRow w' W1.heap.size v b ∧ Below W1.heap.size W1 w') ∧
    ∀ W1, Turns [] W W1 → Calls Try.prog 20 #[chV P.p 1 46 #[]] W1 fun e w' => ∃ v, e = .returned v ∧ IRow w' W1.heap.size v f ∧ Below W1.heap.size W1 w' := by
  obtain ⟨s, N, T, all, q, hs, b, f, d, h1⟩ := h.at_
  have hn := h.nx
  obtain ⟨t1, t2⟩ := h1.gb.told (by omega) (by have := h1.len; omega)
  have t1 : chL s.l (fun i => i + 2) s.l.length (hIx (getA s.l 0)) = b := t1
  have t2 : chL s.l (fun i => i + 2) s.l.length (hIx (getA s.l 1)) = f := t2
  refine ⟨b, f, h1.m, h1.f, fun W1 k => ?_, fun W1 k => ?_⟩
  · have := BI.lists (dcap := #[ptr ba, ptr bn]) hG (h1.si.turns k (by simp)) (by omega)
    rwa [t1] at this
  · have := BI.free hG (h1.si.turns k (by simp)) (by omega)
    rwa [t2] at this
theorem Alc.rows (h : Alc P db t nx mv fv W s N T all q hs b f d) : ∀ y, y ∈ b → 0 ≤ y ∧ y < 20 := fun y hy => by
  have := h.gb.rng y (h.gb.rebase_mem (by simp [hy]))
  omega
theorem Alc.size (h : Alc P db t nx mv fv W s N T all q hs b f d) : b.length + f.length ≤ nx := by
  have : (b ++ f).length ≤ all.length := count_len _ fun a => by have := h.gb.cnt a; rw [List.count_append]; omega
  rw [List.length_append] at this
  have := h.len
  omega
/-- the beginning. -/
theorem Al9.begin {p c B : Nat} {v u : Value} {got ends : List Int} {k : Int} (ha : Arena W p c (List.replicate (2 + 2 * 20) 0) k) (hk : k + 4400 ≤ 4611686018427387904) (how : Lies W ob 72 #[v, u]) (hv : W.ownsRow B 3 1 v got.length (intVs got)) (hu : W.ownsRow B 3 1 u ends.length (intVs ends)) (hne : ∀ g, v.ownBlock = some g → u.ownBlock ≠ some g) (hg : ∀ i, i ∈ got → Ix i) (he : ∀ i, i ∈ ends → Ix i)
    (hbx : Lies W bx 62 (bxC p 0 1 46 47 #[] #[ptr ba, ptr bn])) (hba : Lies W ba 24 #[ptr p]) (hbn : Lies W bn 3 #[.int .i64 (20 : Int)]) (h1 : B ≤ p) (h2 : B ≤ c) (h3 : B ≤ ob) (hr : got.length ≤ 100 ∧ ends.length ≤ 100) (hx : v.ownBlock ≠ some bn ∧ u.ownBlock ≠ some bn)
    (hdb : Lies W db 4 ((List.replicate 20 false).map Value.bool).toArray) (be : Below B w0 W) :
    (⟨p, c, B, 20, ob, []⟩ : BP).Good ∧ Al9 w0 ⟨p, c, B, 20, ob, []⟩ bx ba bn db 0 0 (.slice none 0 0) (.slice none 0 0) W := by
  have hok : BOk 20 (List.replicate (2 + 2 * 20) 0) := bok_zero 20
  obtain ⟨hG, hi, hX⟩ := beginG (r := 4400) ha hk hok how hv hu hne hg he hbx hba hbn h1 h2 h3 (by omega) (by omega) hx
  refine ⟨hG, ⟨⟨_, 0, 0, [], (fun _ => ⟨.done, [], 0⟩), (fun _ => []), [], [], fun _ => false, BI.down hG hi (by simp), ?_, fun x _ _ => (by show decide (getA (List.replicate (2 + 2 * 20) 0) _ = 1) = false; rw [getA_zero]; decide), by omega, fun a ha => (by cases ha), by simp, MR.nil _ _, MR.nil _ _, fun i hi => ?_⟩, ⟨_, hdb⟩, hX, be, by omega⟩⟩
  · exact Gb.zero 20 k
  · rw [hdb.cell i, List.getElem?_toArray, List.getElem?_map, List.getElem?_replicate, if_pos hi]
    rfl
end

end Go.Proofs.Ytgdonejclggjlaa
