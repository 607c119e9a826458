/- Tasks: Finish and Run. -/
import Derived.Test.YthkklcmmbpffiaaUE2
import Derived.LoopN
import Derived.Deep.Slices
import Derived.Test.YthkklcmmbpffiaaRows
import Derived.OwnWalk
import Derived.Laws.OwnMore
import Derived.WalkKit
import Derived.Deep.AppendLies
import Derived.WalkSmall
import Derived.StillTailTactics
import Derived.Deep.RegionHeld3
import Derived.RegionTactic
import Derived.BigRegion
import Derived.BigQuiet
import Derived.Deep.RegionLaw
namespace Go.Proofs.Ythkklcmmbpffiaa
open Go.RowKit

section
variable {St Pr : Type} (M : Mc St Pr)
/-- behind so many steps, as long as there are any. -/
def runN (q : Pr) (s : St) (d : Nat) : Nat → Pr × St × Nat
  | 0 => (q, s, d)
  | j + 1 => let c := runN q s d j; (stepQ M c.1 c.2.1, stepS M c.1 c.2.1, stepD M c.1 c.2.2)
variable {M}
theorem runN_ended {q : Pr} {s : St} {d j : Nat} (h : M.ended (runN M q s d j).1 = true) : ∀ i, runN M q s d (j + i) = runN M q s d j
  | 0 => rfl
  | i + 1 => by
    show (stepQ M (runN M q s d (j + i)).1 (runN M q s d (j + i)).2.1, stepS M (runN M q s d (j + i)).1 (runN M q s d (j + i)).2.1, stepD M (runN M q s d (j + i)).1 (runN M q s d (j + i)).2.2) = _
    rw [runN_ended h i]
    simp [stepQ, stepS, stepD, h]
theorem runN_d {q : Pr} {s : St} {d : Nat} : ∀ j, (runN M q s d j).2.2 ≤ d + j
  | 0 => Nat.le_refl _
  | j + 1 => by
    have := runN_d (q := q) (s := s) (d := d) j
    show stepD M _ _ ≤ _
    unfold stepD
    split <;> omega

/-- a task that is under way: j steps were done since. -/
structure Under (M : Mc St Pr) (m : Nat) (q : Pr) (s : St) (d t : Nat) (w : World) (j : Nat) (W : World) : Prop where
  tk : TaskAt M (m - j) (runN M q s d j).1 (runN M q s d j).2.2 t W
  inv : M.I (m - j) (runN M q s d j).2.1 W
  tu : Turns (t :: M.L) w W
  mo : Moves M.B M.LL w W

theorem Under.next {m : Nat} {q : Pr} {s : St} {d t j : Nat} {w W : World} (hM : M.Ok) (h : Under M m q s d t w j W) (hj : j < m) (hd : d + m < 4611686018427387904) :
    Calls Try.prog 43 #[.pointer (some ⟨t, 0, none⟩)] W fun e w' => e = .returned (.bool (M.ended (runN M q s d (j + 1)).1)) ∧ Under M m q s d t w (j + 1) w' := by
  have h1 := h.tk
  have h2 := h.inv
  rw [show m - j = (m - (j + 1)) + 1 by omega] at h1 h2
  have := runN_d (M := M) (q := q) (s := s) (d := d) j
  refine (step_any hM h1 h2 (by omega)).mono ?_
  rintro e w' ⟨he, a1, a2, a3, a4⟩
  exact ⟨he, a1, a2, h.tu.trans a3, h.mo.trans a4⟩

theorem finish_any {m : Nat} {q : Pr} {s : St} {d t : Nat} {w : World} (hM : M.Ok) (most : Int) (hmost : most ≤ 9223372036854775807) (h : TaskAt M (m + 1) q d t w) (hi : M.I (m + 1) s w) (hd : d + (m + 1) < 4611686018427387904)
    (hm : most ≤ m ∨ M.ended (runN M q s d m).1 = true) :
    Calls Try.prog 18 #[.pointer (some ⟨t, 0, none⟩), .int .i64 most] w fun e w' => e = .returned (.bool (M.ended (runN M q s d most.toNat).1)) ∧
      TaskAt M 0 (runN M q s d most.toNat).1 (runN M q s d most.toNat).2.2 t w' ∧ M.I 0 (runN M q s d most.toNat).2.1 w' ∧ Turns (t :: M.L) w w' ∧ Moves M.B M.LL w w' := by
  have h0 : Under M (m + 1) q s d t w 0 w := ⟨h, hi, Turns.refl _ _, Moves.refl _ _ _⟩
  have down : ∀ r (W : World) s', M.I r s' W → M.I 0 s' W := fun r => by
    induction r with
    | zero => exact fun W s' h => h
    | succ r ih => exact fun W s' h => ih W s' (hM.less _ _ _ h)
  have downT : ∀ r (W : World) q' d', TaskAt M r q' d' t W → TaskAt M 0 q' d' t W := fun r => by
    induction r with
    | zero => exact fun W q' d' h => h
    | succ r ih => exact fun W q' d' h => ih W q' d' h.less
  clear h hi
  go_enter Try.func18, Try.ntmps18
  go_wp2_with fail
  go_loopw [6] (fun i wr => ∃ j : Nat, i = .int .i64 j ∧ j ≤ m + 1 ∧ (j = 0 ∨ (j : Int) ≤ most) ∧ (j ≤ m ∨ most ≤ j) ∧ Under M (m + 1) q s d t w j wr) (fun i _ => (most - intOf i).toNat)
  case atStart => exact ⟨0, rfl, by omega, .inl rfl, by omega, h0⟩
  case round =>
    obtain ⟨j, rfl, hj, hj2, hj3, hU⟩ := hrel
    by_cases hlt : (j : Int) < most
    · have hjm : j ≤ m := by omega
      have c1 := hU.next hM (by omega) hd
      cases hb : M.ended (runN M q s d (j + 1)).1 with
      | true =>
        rw [hb] at c1
        have e1 : runN M q s d most.toNat = runN M q s d (j + 1) := by
          have := runN_ended hb (most.toNat - (j + 1))
          rwa [show j + 1 + (most.toNat - (j + 1)) = most.toNat by omega] at this
        have E1 := Lib.hid e1
        have HB := Lib.hid hb
        clear hU h0 e1 hm hb
        go_wp2_with fail
        refine c1.mono ?_
        rintro e w1 ⟨rfl, hU⟩
        have c2 := ended_any hU.tk
        rw [HB.out] at c2
        have HU := Lib.hid (And.intro (downT _ _ _ _ hU.tk) (And.intro (down _ _ _ hU.inv) (And.intro hU.tu hU.mo)))
        clear hU c1
        go_wp2_with fail
        refine c2.mono ?_
        rintro e w1 ⟨rfl, rfl⟩
        go_wp2
        go_ret
        rw [E1.out]
        exact ⟨ret_bool HB.out.symm, HU.out⟩
      | false =>
        rw [hb] at c1
        have hj4 : j + 1 ≤ m ∨ most ≤ ((j + 1 : Nat) : Int) := by
          rcases Nat.lt_or_ge j m with h1 | h1
          · exact .inl h1
          · obtain rfl : j = m := by omega
            rcases hm with h2 | h2
            · exact .inr (by omega)
            · have e1 := runN_ended h2 1
              rw [e1, h2] at hb
              cases hb
        clear hU h0 hm hb
        go_wp2_with fail
        refine c1.mono ?_
        rintro e w1 ⟨rfl, hU⟩
        go_wp2
        go_roundw
        case rel => exact ⟨j + 1, by go_num, by omega, .inr (by omega), hj4, hU⟩
        case measure => simp [intOf]; omega
    · have c2 := ended_any hU.tk
      have e1 : runN M q s d most.toNat = runN M q s d j := by
        rw [show most.toNat = j by omega]
      have E1 := Lib.hid e1
      have HU := Lib.hid (And.intro (downT _ _ _ _ hU.tk) (And.intro (down _ _ _ hU.inv) (And.intro hU.tu hU.mo)))
      obtain ⟨bb, hbb⟩ : ∃ bb, M.ended (runN M q s d j).1 = bb := ⟨_, rfl⟩
      rw [hbb] at c2
      have HB := Lib.hid hbb
      clear hU h0 e1 hm hbb
      go_wp2_with fail
      refine c2.mono ?_
      rintro e w1 ⟨rfl, rfl⟩
      go_wp2
      go_ret
      rw [E1.out]
      exact ⟨ret_bool HB.out.symm, HU.out⟩

end

end Go.Proofs.Ythkklcmmbpffiaa

/- Slices of structs of numbers that are handed in. -/
namespace Go.Proofs.Ythkklcmmbpffiaa
open Go.RowKit Go.ChangeShapes Go.WideShapes

/-- n structs, whose fields are numbers of the kinds ks: F i j is field j of number i. -/
structure SRow (w : World) (ks : List IntKind) (A : Option Addr) (n : Nat) (F : Nat → Nat → Int) : Prop where
  most : n ≤ maxLen
  wf : ∀ (i j : Nat) (k : IntKind), i < n → ks[j]? = some k → (Lit.int k (F i j)).wf = true
  at_ : 0 < n → ∃ a, A = some a ∧ a.block < w.heap.size ∧ ∀ (i j : Nat) (k : IntKind), i < n → ks[j]? = some k → w.cell? (a.add (i * ks.length + j)) = some (.int k (F i j))

theorem SRow.keep {w w' : World} {ks : List IntKind} {A : Option Addr} {n : Nat} {F : Nat → Nat → Int} {B : Nat} (h : SRow w ks A n F) (hB : w.heap.size ≤ B) (g : Below B w w') : SRow w' ks A n F :=
  ⟨h.most, h.wf, fun hn => by
    obtain ⟨a, e, hb, hc⟩ := h.at_ hn
    exact ⟨a, e, Nat.lt_of_lt_of_le hb g.size, fun i j k hi hk => (g.cell (by rw [add_block]; omega)).trans (hc i j k hi hk)⟩⟩

/-- the number that a cell has. -/
def numAt (w : World) (a : Addr) : Int := match w.cell? a with
  | some (.int _ x) => x
  | _ => 0

section
variable {H : Type} {enc : TypeId × Value → H} {P : Program} {w : World} {base : Nat} {spare : Nat → Bool} {held : Bool}
theorem SRow.opened {t e : TypeId} {fs : Array Field} {ks : List IntKind} {a : Option Addr} {n c : Nat} {d : DataW H} {p : List MemPlace} (ht : P.underlying t = some (.slice e)) (he : P.underlying e = some (.struct fs)) (hl : P.cellsOf e = ks.length) (h0 : 0 < ks.length)
    (hk : ∀ (j : Nat) (k : IntKind), ks[j]? = some k → ∃ f : Field, fs[j]? = some f ∧ f.offset = j ∧ P.cellsOf f.type = 1 ∧ P.underlying f.type = some (.int k))
    (h : DataW.Trod enc P w base spare held t (.slice a n c) d p) : ∃ F, SRow w ks a n F := by
  obtain ⟨fuel, hf⟩ := h
  rcases Go.Deep.open_slice ht hf with ⟨hcs, _⟩ | ⟨x, len, cap, m, nn, D, Pl, hcs, _, hlc, hm, hmm, _, hi⟩
  · simp [Value.cells] at hcs
    obtain ⟨rfl, rfl, rfl⟩ := hcs
    exact ⟨fun _ _ => 0, by simp, fun i j k hi => by omega, fun h => by omega⟩
  · simp [Value.cells] at hcs
    obtain ⟨rfl, rfl, rfl⟩ := hcs
    have hnm : n ≤ m := by rw [hmm]; split <;> omega
    have key : ∀ (i j : Nat) (k : IntKind), i < n → ks[j]? = some k → ∃ y, w.cell? (x.add (i * ks.length + j)) = some (.int k y) ∧ (Lit.int k y).wf = true := by
      intro i j k hin hj
      obtain ⟨cs', hc, ht'⟩ := hi i (by omega)
      rw [hl] at hc
      obtain ⟨ys, n', _, _, hlen, hyl, hg⟩ := DataW.trod_struct he ht'
      obtain ⟨_, hcl, hat⟩ := World.cells?_some hc
      obtain ⟨f, hfj, ho, h1, hu⟩ := hk j k hj
      have hjl : j < ks.length := (List.getElem?_eq_some_iff.1 hj).1
      have hjf : j < fs.size := (Array.getElem?_eq_some_iff.1 hfj).1
      have h2 := hg j f hfj
      rw [ho, h1, List.getElem?_eq_getElem (by omega)] at h2
      obtain ⟨y, hy, _, hw⟩ := DataW.trod_int hu h2
      have h3 : cs'[j]? = some (.int k y) := by
        have h4 : ((cs'.drop j).take 1)[0]? = some (.int k y) := by rw [hy]; rfl
        simpa using h4
      refine ⟨y, ?_, hw⟩
      rw [← Go.Deep.add_add, hat j hjl, h3]
    refine ⟨fun i j => numAt w (x.add (i * ks.length + j)), by omega, fun i j k hin hj => ?_, fun hn => ⟨x, rfl, ?_, fun i j k hin hj => ?_⟩⟩
    · obtain ⟨y, h1, h2⟩ := key i j k hin hj
      simpa [numAt, h1] using h2
    · obtain ⟨y, h1, _⟩ := key 0 0 ks[0] hn (List.getElem?_eq_getElem h0)
      have := cell_block h1
      rwa [add_block] at this
    · obtain ⟨y, h1, h2⟩ := key i j k hin hj
      simp [numAt, h1]
end

theorem i64_of_wf {x : Int} (h : (Lit.int .i64 x).wf = true) : -9223372036854775808 ≤ x ∧ x ≤ 9223372036854775807 := bounds_i64 h

theorem add_past (b : Addr) (j : Nat) : b.add (j + 1) = ⟨b.block, b.off + (j + 1), none⟩ := by unfold Addr.add; simp

end Go.Proofs.Ythkklcmmbpffiaa

/- Tasks: Run. -/
namespace Go.Proofs.Ythkklcmmbpffiaa
open Go.RowKit

def updF {α : Type} (f : Nat → α) (j : Nat) (v : α) : Nat → α := fun i => if i = j then v else f i
theorem updF_same {α : Type} (f : Nat → α) (j : Nat) (v : α) : updF f j v j = v := by simp [updF]
theorem updF_ne {α : Type} (f : Nat → α) {i j : Nat} (v : α) (h : i ≠ j) : updF f j v i = f i := by simp [updF, h]

/-- tasks under way: the state, what each still does, how many steps each did, how many were done by Run. -/
structure Cfg (St Pr : Type) where
  s : St
  q : Nat → Pr
  d : Nat → Nat
  n : Nat

section
variable {St Pr : Type} (M : Mc St Pr)
/-- is it a pick that does a step? -/
def doesP (N : Nat) (c : Cfg St Pr) (i : Int) : Bool := decide (0 ≤ i ∧ i < N) && !M.ended (c.q i.toNat)
def pick1 (N : Nat) (c : Cfg St Pr) (i : Int) : Cfg St Pr :=
  if doesP M N c i = true then ⟨(M.step (c.q i.toNat) c.s).2, updF c.q i.toNat (M.step (c.q i.toNat) c.s).1, updF c.d i.toNat (c.d i.toNat + 1), c.n + 1⟩ else c
def pickTo (N : Nat) (c : Cfg St Pr) (xs : List Int) (m : Nat) : Cfg St Pr := (xs.take m).foldl (pick1 M N) c
theorem pickTo_succ (N : Nat) (c : Cfg St Pr) (xs : List Int) (m : Nat) (h : m < xs.length) : pickTo M N c xs (m + 1) = pick1 M N (pickTo M N c xs m) (xs.getD m 0) := by
  unfold pickTo
  rw [List.take_succ_eq_append_getElem h, List.foldl_append]
  simp [List.getD, h]

/-- n tasks, at the blocks ts, with whatever is written beside them in L. -/
structure TRow (w : World) (L : List Nat) (A : Option Addr) (n : Nat) (ts : Nat → Nat) : Prop where
  most : n ≤ maxLen
  inj : ∀ i j, i < n → j < n → ts i = ts j → i = j
  at_ : 0 < n → ∃ a, A = some a ∧ a.block < w.heap.size ∧ a.block ∉ L ∧ (∀ i, i < n → a.block ≠ ts i) ∧ ∀ i, i < n → w.cell? (a.add i) = some (.pointer (some ⟨ts i, 0, none⟩))

/-- the blocks of tasks. -/
def tsL (n : Nat) (ts : Nat → Nat) : List Nat := (List.range n).map ts
theorem tsL_mem {n : Nat} {ts : Nat → Nat} {b : Nat} : b ∈ tsL n ts ↔ ∃ i, i < n ∧ ts i = b := by simp [tsL]

theorem TRow.turn {w w' : World} {L : List Nat} {A : Option Addr} {n : Nat} {ts : Nat → Nat} (h : TRow w L A n ts) (k : Turns (tsL n ts ++ L) w w') : TRow w' L A n ts :=
  ⟨h.most, h.inj, fun hn => by
    obtain ⟨a, e, h1, h2, h3, h4⟩ := h.at_ hn
    refine ⟨a, e, Nat.lt_of_lt_of_le h1 k.size, h2, h3, fun i hi => (k.cell (by rw [add_block]; exact h1) ?_).trans (h4 i hi)⟩
    rw [add_block, List.mem_append, tsL_mem]
    rintro (⟨j, hj, e⟩ | hm)
    · exact h3 j hj e.symm
    · exact h2 hm⟩
theorem TRow.less {w : World} {L L' : List Nat} {A : Option Addr} {n : Nat} {ts : Nat → Nat} (h : TRow w L A n ts) (hL : ∀ b, b ∈ L' → b ∈ L) : TRow w L' A n ts :=
  ⟨h.most, h.inj, fun hn => by
    obtain ⟨a, e, h1, h2, h3, h4⟩ := h.at_ hn
    exact ⟨a, e, h1, fun hm => h2 (hL _ hm), h3, h4⟩⟩

/-- numbers that are handed in, and which no block of L holds. -/
structure RowX (w : World) (L : List Nat) (A : Option Addr) (n : Nat) (xs : List Int) : Prop where
  row : Row w .i64 A n xs
  out : 0 < n → ∀ a, A = some a → a.block ∉ L
theorem RowX.turn {w w' : World} {L : List Nat} {A : Option Addr} {n : Nat} {xs : List Int} (h : RowX w L A n xs) (k : Turns L w w') : RowX w' L A n xs :=
  ⟨⟨h.row.len, h.row.most, h.row.wf, fun hn => by
    obtain ⟨a, e, hb, hc⟩ := h.row.at_ hn
    exact ⟨a, e, Nat.lt_of_lt_of_le hb k.size, fun i hi => (k.cell (by rw [add_block]; exact hb) (by rw [add_block]; exact h.out hn a e)).trans (hc i hi)⟩⟩, h.out⟩

/-- all tasks, in memory. -/
structure All (M : Mc St Pr) (m N : Nat) (ts : Nat → Nat) (c : Cfg St Pr) (W : World) : Prop where
  tk : ∀ i, i < N → TaskAt M m (c.q i) (c.d i) (ts i) W
  inv : M.I m c.s W

variable {M}
theorem TaskAt.keep {m : Nat} {q : Pr} {d t : Nat} {w w' : World} {L' : List Nat} (h : TaskAt M m q d t w) (k : Turns L' w w') (g : Moves M.B M.LL w w') (ht : t ∉ L') : TaskAt M m q d t w' := h.turns k g ht

theorem All.step {m N : Nat} {ts : Nat → Nat} {c : Cfg St Pr} {W : World} (hM : M.Ok) (h : All M (m + 1) N ts c W) (hinj : ∀ i j, i < N → j < N → ts i = ts j → i = j) (j : Nat) (hj : j < N) (he : M.ended (c.q j) = false) (hd : c.d j < 4611686018427387904) :
    Calls Try.prog 43 #[.pointer (some ⟨ts j, 0, none⟩)] W fun e w' => (∃ b, e = .returned (.bool b)) ∧ All M m N ts (pick1 M N c j) w' ∧ Turns (tsL N ts ++ M.L) W w' ∧ Moves M.B M.LL W w' := by
  refine (step_any hM (h.tk j hj) h.inv hd).mono ?_
  rintro e w' ⟨he1, a1, a2, a3, a4⟩
  have hp : doesP M N c j = true := by simp [doesP, he, hj]
  have e1 : stepQ M (c.q j) c.s = (M.step (c.q j) c.s).1 := by simp [stepQ, he]
  have e2 : stepD M (c.q j) (c.d j) = c.d j + 1 := by simp [stepD, he]
  have e3 : stepS M (c.q j) c.s = (M.step (c.q j) c.s).2 := by simp [stepS, he]
  rw [e1, e2] at a1
  rw [e3] at a2
  refine ⟨⟨_, he1⟩, ⟨?_, ?_⟩, a3.more (fun b hb => ?_), a4⟩
  · intro i hi
    unfold pick1
    rw [if_pos hp]
    simp only [Int.toNat_natCast]
    by_cases hij : i = j
    · subst hij
      rw [updF_same, updF_same]
      exact a1
    · rw [updF_ne _ _ hij, updF_ne _ _ hij]
      refine (h.tk i hi).less.turns a3 a4 ?_
      intro hm
      rcases List.mem_cons.1 hm with h1 | h1
      · exact hij (hinj i j hi hj h1)
      · exact (h.tk i hi).out (hM.sub _ h1)
  · unfold pick1
    rw [if_pos hp]
    simpa using a2
  · rcases List.mem_cons.1 hb with h1 | h1
    · subst h1
      exact .inl (List.mem_append.2 (.inl (tsL_mem.2 ⟨j, hj, rfl⟩)))
    · exact .inl (List.mem_append.2 (.inr h1))

theorem pick1_d {N : Nat} (c : Cfg St Pr) (i : Int) (j : Nat) : (pick1 M N c i).d j ≤ c.d j + 1 := by
  unfold pick1
  split
  · simp only [updF]
    split
    · rename_i h; subst h; omega
    · omega
  · omega
theorem pickTo_d {N : Nat} (c : Cfg St Pr) (xs : List Int) (j : Nat) : ∀ m, m ≤ xs.length → (pickTo M N c xs m).d j ≤ c.d j + m
  | 0, _ => by simp [pickTo]
  | m + 1, h => by
    rw [pickTo_succ M N c xs m (by omega)]
    have := pick1_d (M := M) (N := N) (pickTo M N c xs m) (xs.getD m 0) j
    have := pickTo_d (N := N) c xs j m (by omega)
    omega
theorem pick1_no {N : Nat} {c : Cfg St Pr} {i : Int} (h : doesP M N c i = false) : pick1 M N c i = c := by simp [pick1, h]
theorem pick1_n {N : Nat} {c : Cfg St Pr} {i : Int} (h : doesP M N c i = true) : (pick1 M N c i).n = c.n + 1 := by simp [pick1, h]
theorem pickTo_n {N : Nat} (c : Cfg St Pr) (xs : List Int) : ∀ m, m ≤ xs.length → (pickTo M N c xs m).n ≤ c.n + m
  | 0, _ => by simp [pickTo]
  | m + 1, h => by
    rw [pickTo_succ M N c xs m (by omega)]
    have := pickTo_n (N := N) c xs m (by omega)
    unfold pick1
    split
    · show _ + 1 ≤ _; omega
    · omega

/-- in the midst of Run: m picks are done. -/
structure RunAt (M : Mc St Pr) (f N : Nat) (ts : Nat → Nat) (c : Cfg St Pr) (xs : List Int) (w : World) (m : Nat) (W : World) : Prop where
  all : All M (f - m) N ts (pickTo M N c xs m) W
  tu : Turns (tsL N ts ++ M.L) w W
  mo : Moves M.B M.LL w W

theorem All.less {m N : Nat} {ts : Nat → Nat} {c : Cfg St Pr} {W : World} (hM : M.Ok) (h : All M (m + 1) N ts c W) : All M m N ts c W := ⟨fun i hi => (h.tk i hi).less, hM.less _ _ _ h.inv⟩

set_option maxHeartbeats 1000000 in
theorem run_any {f : Nat} (hM : M.Ok) (A B : Option Addr) (N ca n cb : Nat) (ts : Nat → Nat) (xs : List Int) (c : Cfg St Pr) (w : World)
    (hT : TRow w M.L A N ts) (hR : RowX w (tsL N ts ++ M.L) B n xs) (hA : All M f N ts c w) (hf : n ≤ f) (hc : c.n = 0) (hd : ∀ i, i < N → c.d i + n < 4611686018427387904) :
    Calls Try.prog 24 #[.slice A N ca, .slice B n cb] w fun e w' => e = .returned (.int .i64 (pickTo M N c xs n).n) ∧ RunAt M f N ts c xs w n w' := by
  have hmx := hR.row.most
  have hln := hR.row.len
  have hmt := hT.most
  unfold maxLen at hmx hmt
  go_enter Try.func24, Try.ntmps24
  go_wp2_with fail
  go_loopw [5, 10] (fun u i wr => ∃ m : Nat, m ≤ n ∧ i = .int .i64 m ∧ u = .int .i64 (pickTo M N c xs m).n ∧ RunAt M f N ts c xs w m wr) (fun _ i _ => n - (intOf i).toNat)
  case atStart => exact ⟨0, by omega, rfl, by simp [pickTo, hc], ⟨hA, Turns.refl _ _, Moves.refl _ _ _⟩⟩
  case round =>
    obtain ⟨m, hmn, rfl, rfl, hrun⟩ := hrel
    by_cases hlt : m < n
    · have hR' := hR.turn hrun.tu
      have hT' := hT.turn hrun.tu
      obtain ⟨b, rfl, hbb, hcell⟩ := hR'.row.at_ (by omega)
      have hcx := hcell m hlt
      have hwx := i64_of_wf (hR'.row.wf (xs.getD m 0) (by simp [List.getD, show m < xs.length by omega]))
      have hS := Lib.hid (pickTo_succ M N c xs m (by omega))
      have hdn := pickTo_n (M := M) (N := N) c xs m (by omega)
      have hdd := fun i => pickTo_d (M := M) (N := N) c xs i m (by omega)
      have hall := hrun.all
      rw [show f - m = (f - (m + 1)) + 1 by omega] at hall
      have htu := hrun.tu
      have hmo := hrun.mo
      rw [hc] at hdn
      clear hcell hR' hA hrun
      generalize xs.getD m 0 = x at *
      generalize hc' : pickTo M N c xs m = c' at *
      clear hc'
      cases hdo : doesP M N c' x with
      | false =>
        have HS : Hid (pickTo M N c xs (m + 1) = c') := Lib.hid (by rw [hS.out, pick1_no hdo])
        have HR : Hid (All M (f - (m + 1)) N ts c' wr) := Lib.hid (hall.less hM)
        have HN : Hid (RunAt M f N ts c xs w (m + 1) wr) := Lib.hid ⟨by rw [HS.out]; exact HR.out, htu, hmo⟩
        rcases (by omega : x < 0 ∨ 0 ≤ x ∧ (N : Int) ≤ x ∨ 0 ≤ x ∧ x < N) with hx | ⟨hx, hx2⟩ | ⟨hx, hx2⟩
        · clear hall hdo hT' hdd hd
          go_wp2
          go_roundw
          case rel => exact ⟨m + 1, by omega, by go_num, by rw [HS.out], HN.out⟩
          case measure => simp [intOf]; omega
        · clear hall hdo hT' hdd hd
          go_wp2
          go_roundw
          case rel => exact ⟨m + 1, by omega, by go_num, by rw [HS.out], HN.out⟩
          case measure => simp [intOf]; omega
        · obtain ⟨j, rfl⟩ := Int.eq_ofNat_of_zero_le hx
          have hj : j < N := by omega
          have he : M.ended (c'.q j) = true := by simpa [doesP, hj] using hdo
          obtain ⟨a, rfl, ha1, _, _, ha2⟩ := hT'.at_ (by omega)
          have hca := ha2 j hj
          have c1 := ended_any (hall.tk j hj)
          rw [he] at c1
          clear hall hdo hT' hdd hd ha2 he
          go_wp2_with fail
          refine c1.mono ?_
          rintro e w' ⟨rfl, rfl⟩
          go_wp2
          go_roundw
          case rel => exact ⟨m + 1, by omega, by go_num, by rw [HS.out], HN.out⟩
          case measure => simp [intOf]; omega
      | true =>
        have hx : 0 ≤ x ∧ x < N := by simp [doesP] at hdo; omega
        obtain ⟨j, rfl⟩ := Int.eq_ofNat_of_zero_le hx.1
        have hj : j < N := by omega
        have he : M.ended (c'.q j) = false := by simpa [doesP, hj] using hdo
        obtain ⟨a, rfl, ha1, _, _, ha2⟩ := hT'.at_ (by omega)
        have hca := ha2 j hj
        have c1 := ended_any (hall.tk j hj)
        rw [he] at c1
        have hdj := hdd j
        have hdj2 := hd j hj
        have c2 := hall.step hM hT'.inj j hj he (by omega)
        have HS : Hid (pickTo M N c xs (m + 1) = pick1 M N c' j) := Lib.hid hS.out
        have HN : Hid ((pickTo M N c xs (m + 1)).n = c'.n + 1) := Lib.hid (by rw [hS.out, pick1_n hdo])
        clear hall hdo hT' hdd hd ha2 he hdj hdj2
        go_wp2_with fail
        refine c1.mono ?_
        rintro e w' ⟨rfl, rfl⟩
        go_wp2_with fail
        refine c2.mono ?_
        rintro e w1 ⟨⟨bb, rfl⟩, a1, a2, a3⟩
        go_wp2
        go_roundw
        case rel => exact ⟨m + 1, by omega, by go_num, by rw [HN.out]; go_num, ⟨by rw [HS.out]; exact a1, htu.trans a2, hmo.trans a3⟩⟩
        case measure => simp [intOf]; omega
    · obtain rfl : m = n := by omega
      go_wp2
      go_ret
      exact ⟨rfl, hrun⟩
end

end Go.Proofs.Ythkklcmmbpffiaa

/- Tasks over any machine: Run. -/
namespace Go.Proofs.Ythkklcmmbpffiaa
open Go.RowKit

section
variable {St Pr : Type} (M : Gm St Pr)
/-- is it a pick that does a step? -/
def Gm.does (N : Nat) (c : Cfg St Pr) (i : Int) : Bool := decide (0 ≤ i ∧ i < N) && !M.ended (c.q i.toNat)
def Gm.pick (N : Nat) (c : Cfg St Pr) (i : Int) : Cfg St Pr :=
  if M.does N c i = true then ⟨(M.step (c.q i.toNat) c.s).2, updF c.q i.toNat (M.step (c.q i.toNat) c.s).1, updF c.d i.toNat (c.d i.toNat + 1), c.n + 1⟩ else c
def Gm.picks (N : Nat) (c : Cfg St Pr) (xs : List Int) (m : Nat) : Cfg St Pr := (xs.take m).foldl (M.pick N) c
theorem picks_succ (N : Nat) (c : Cfg St Pr) (xs : List Int) (m : Nat) (h : m < xs.length) : M.picks N c xs (m + 1) = M.pick N (M.picks N c xs m) (xs.getD m 0) := by
  unfold Gm.picks
  rw [List.take_succ_eq_append_getElem h, List.foldl_append]
  simp [List.getD, h]

/-- n tasks, at the blocks ts. -/
structure Gm.TRow (w : World) (A : Option Addr) (n : Nat) (ts : Nat → Nat) : Prop where
  most : n ≤ maxLen
  inj : ∀ i j, i < n → j < n → ts i = ts j → i = j
  at_ : 0 < n → ∃ a, A = some a ∧ a.block < w.heap.size ∧ a.block ∉ M.L ∧ ¬ Rw M.ws w a.block ∧ (∀ i, i < n → a.block ≠ ts i) ∧ ∀ i, i < n → w.cell? (a.add i) = some (ptr (ts i))

/-- numbers that are handed in, and which nothing writes. -/
structure Gm.RowX (w : World) (N : Nat) (ts : Nat → Nat) (A : Option Addr) (n : Nat) (xs : List Int) : Prop where
  row : Row w .i64 A n xs
  out : 0 < n → ∀ a, A = some a → a.block ∉ tsL N ts ++ M.L ∧ ¬ Rw M.ws w a.block

/-- all tasks, in memory. -/
structure Gm.All (m N : Nat) (ts : Nat → Nat) (c : Cfg St Pr) (W : World) : Prop where
  tk : ∀ i, i < N → M.Task m (c.q i) (c.d i) (ts i) W
  inv : M.I m c.s W

variable {M}
theorem Gm.TRow.turn {w w' : World} {A : Option Addr} {n : Nat} {ts : Nat → Nat} (h : M.TRow w A n ts) (k : Fr (tsL n ts ++ M.L) M.ws w w') : M.TRow w' A n ts :=
  ⟨h.most, h.inj, fun hn => by
    obtain ⟨a, e, h1, h2, h3, h4, h5⟩ := h.at_ hn
    have out : a.block ∉ tsL n ts ++ M.L := by
      rw [List.mem_append, tsL_mem]
      rintro (⟨j, hj, e⟩ | hm)
      · exact h4 j hj e.symm
      · exact h2 hm
    refine ⟨a, e, Nat.lt_of_lt_of_le h1 k.size, h2, k.row h1 h3, h4, fun i hi => (k.cell (by rw [add_block]; exact h1) (by rw [add_block]; exact out) (by rw [add_block]; exact h3)).trans (h5 i hi)⟩⟩
theorem Gm.RowX.turn {w w' : World} {N : Nat} {ts : Nat → Nat} {A : Option Addr} {n : Nat} {xs : List Int} (h : M.RowX w N ts A n xs) (k : Fr (tsL N ts ++ M.L) M.ws w w') : M.RowX w' N ts A n xs :=
  ⟨⟨h.row.len, h.row.most, h.row.wf, fun hn => by
    obtain ⟨a, e, hb, hc⟩ := h.row.at_ hn
    obtain ⟨h1, h2⟩ := h.out hn a e
    exact ⟨a, e, Nat.lt_of_lt_of_le hb k.size, fun i hi => (k.cell (by rw [add_block]; exact hb) (by rw [add_block]; exact h1) (by rw [add_block]; exact h2)).trans (hc i hi)⟩⟩, fun hn a e => by
    obtain ⟨a', e', hb, _⟩ := h.row.at_ hn
    rw [e] at e'
    injection e' with e'
    subst e'
    obtain ⟨h1, h2⟩ := h.out hn a e
    exact ⟨h1, k.row hb h2⟩⟩

theorem Gm.All.step {m N : Nat} {ts : Nat → Nat} {c : Cfg St Pr} {W : World} (hM : M.Ok) (h : M.All (m + 1) N ts c W) (hinj : ∀ i j, i < N → j < N → ts i = ts j → i = j) (j : Nat) (hj : j < N) (he : M.ended (c.q j) = false) (hW : M.W (c.q j) c.s) (hd : c.d j < 4611686018427387904) :
    Calls Try.prog 43 #[ptr (ts j)] W fun e w' => (∃ b, e = .returned (.bool b)) ∧ M.All m N ts (M.pick N c j) w' ∧ Fr (tsL N ts ++ M.L) M.ws W w' ∧ Mv M.B (M.L ++ M.X) M.ws W w' := by
  refine (step_g hM (h.tk j hj) h.inv (fun _ => hW) hd).mono ?_
  rintro e w' ⟨he1, a1, a2, a3, a4⟩
  have hp : M.does N c j = true := by simp [Gm.does, he, hj]
  have e1 : M.sQ (c.q j) c.s = (M.step (c.q j) c.s).1 := by simp [Gm.sQ, he]
  have e2 : M.sD (c.q j) (c.d j) = c.d j + 1 := by simp [Gm.sD, he]
  have e3 : M.sS (c.q j) c.s = (M.step (c.q j) c.s).2 := by simp [Gm.sS, he]
  rw [e1, e2] at a1
  rw [e3] at a2
  refine ⟨⟨_, he1⟩, ⟨?_, ?_⟩, a3.more (fun b hb => ?_), a4⟩
  · intro i hi
    unfold Gm.pick
    rw [if_pos hp]
    simp only [Int.toNat_natCast]
    by_cases hij : i = j
    · subst hij
      rw [updF_same, updF_same]
      exact a1
    · rw [updF_ne _ _ hij, updF_ne _ _ hij]
      have h1 := (h.tk i hi).less
      refine h1.keep (a3.block _ h1.lt (fun hm => ?_) h1.row) a4
      rcases List.mem_cons.1 hm with h2 | h2
      · exact hij (hinj i j hi hj h2)
      · exact h1.out h2
  · unfold Gm.pick
    rw [if_pos hp]
    simpa using a2
  · rcases List.mem_cons.1 hb with h1 | h1
    · subst h1
      exact List.mem_append.2 (.inl (tsL_mem.2 ⟨j, hj, rfl⟩))
    · exact List.mem_append.2 (.inr h1)

theorem pick_d {N : Nat} (c : Cfg St Pr) (i : Int) (j : Nat) : (M.pick N c i).d j ≤ c.d j + 1 := by
  unfold Gm.pick
  split
  · simp only [updF]
    split
    · rename_i h; subst h; omega
    · omega
  · omega
theorem picks_d {N : Nat} (c : Cfg St Pr) (xs : List Int) (j : Nat) : ∀ m, m ≤ xs.length → (M.picks N c xs m).d j ≤ c.d j + m
  | 0, _ => by simp [Gm.picks]
  | m + 1, h => by
    rw [picks_succ M N c xs m (by omega)]
    have := pick_d (M := M) (N := N) (M.picks N c xs m) (xs.getD m 0) j
    have := picks_d (N := N) c xs j m (by omega)
    omega
theorem pick_no {N : Nat} {c : Cfg St Pr} {i : Int} (h : M.does N c i = false) : M.pick N c i = c := by simp [Gm.pick, h]
theorem pick_n {N : Nat} {c : Cfg St Pr} {i : Int} (h : M.does N c i = true) : (M.pick N c i).n = c.n + 1 := by simp [Gm.pick, h]
theorem picks_n {N : Nat} (c : Cfg St Pr) (xs : List Int) : ∀ m, m ≤ xs.length → (M.picks N c xs m).n ≤ c.n + m
  | 0, _ => by simp [Gm.picks]
  | m + 1, h => by
    rw [picks_succ M N c xs m (by omega)]
    have := picks_n (N := N) c xs m (by omega)
    unfold Gm.pick
    split
    · show _ + 1 ≤ _; omega
    · omega

/-- in the midst of Run: m picks are done. -/
structure Gm.RunAt (M : Gm St Pr) (f N : Nat) (ts : Nat → Nat) (c : Cfg St Pr) (xs : List Int) (w : World) (m : Nat) (W : World) : Prop where
  all : M.All (f - m) N ts (M.picks N c xs m) W
  fr : Fr (tsL N ts ++ M.L) M.ws w W
  mo : Mv M.B (M.L ++ M.X) M.ws w W

theorem Gm.All.less {m N : Nat} {ts : Nat → Nat} {c : Cfg St Pr} {W : World} (hM : M.Ok) (h : M.All (m + 1) N ts c W) : M.All m N ts c W := ⟨fun i hi => (h.tk i hi).less, hM.less _ _ _ h.inv⟩

set_option maxHeartbeats 1000000 in
set_option maxRecDepth 100000 in
theorem run_g {f : Nat} (hM : M.Ok) (A B : Option Addr) (N ca n cb : Nat) (ts : Nat → Nat) (xs : List Int) (c : Cfg St Pr) (w : World)
    (hT : M.TRow w A N ts) (hR : M.RowX w N ts B n xs) (hA : M.All f N ts c w) (hf : n ≤ f) (hc : c.n = 0) (hW : ∀ m, m < n → ∀ i, i < N → M.does N (M.picks N c xs m) i = true → xs.getD m 0 = (i : Int) → M.W ((M.picks N c xs m).q i) (M.picks N c xs m).s) (hd : ∀ i, i < N → c.d i + n < 4611686018427387904) :
    Calls Try.prog 24 #[.slice A N ca, .slice B n cb] w fun e w' => e = .returned (.int .i64 (M.picks N c xs n).n) ∧ M.RunAt f N ts c xs w n w' := by
  have hmx := hR.row.most
  have hln := hR.row.len
  have hmt := hT.most
  unfold maxLen at hmx hmt
  go_enter Try.func24, Try.ntmps24
  go_wp2_with fail
  go_loopw [5, 10] (fun u i wr => ∃ m : Nat, m ≤ n ∧ i = .int .i64 m ∧ u = .int .i64 (M.picks N c xs m).n ∧ M.RunAt f N ts c xs w m wr) (fun _ i _ => n - (intOf i).toNat)
  case atStart => exact ⟨0, by omega, rfl, by simp [Gm.picks, hc], ⟨hA, Fr.refl _ _ _, Mv.refl _ _ _ _⟩⟩
  case round =>
    obtain ⟨m, hmn, rfl, rfl, hrun⟩ := hrel
    by_cases hlt : m < n
    · have hR' := hR.turn hrun.fr
      have hT' := hT.turn hrun.fr
      obtain ⟨b, rfl, hbb, hcell⟩ := hR'.row.at_ (by omega)
      have hcx := hcell m hlt
      have hwx := i64_of_wf (hR'.row.wf (xs.getD m 0) (by simp [List.getD, show m < xs.length by omega]))
      have hS := Lib.hid (picks_succ M N c xs m (by omega))
      have hdn := picks_n (M := M) (N := N) c xs m (by omega)
      have hdd := fun i => picks_d (M := M) (N := N) c xs i m (by omega)
      have hall := hrun.all
      rw [show f - m = (f - (m + 1)) + 1 by omega] at hall
      have htu := hrun.fr
      have hWm := hW m hlt
      have hmo := hrun.mo
      rw [hc] at hdn
      clear hcell hR' hA hrun
      generalize xs.getD m 0 = x at *
      generalize hc' : M.picks N c xs m = c' at *
      clear hc'
      cases hdo : M.does N c' x with
      | false =>
        have HS : Hid (M.picks N c xs (m + 1) = c') := Lib.hid (by rw [hS.out, pick_no hdo])
        have HR : Hid (M.All (f - (m + 1)) N ts c' wr) := Lib.hid (hall.less hM)
        have HN : Hid (M.RunAt f N ts c xs w (m + 1) wr) := Lib.hid ⟨by rw [HS.out]; exact HR.out, htu, hmo⟩
        rcases (by omega : x < 0 ∨ 0 ≤ x ∧ (N : Int) ≤ x ∨ 0 ≤ x ∧ x < N) with hx | ⟨hx, hx2⟩ | ⟨hx, hx2⟩
        · clear hall hdo hT' hdd hd hWm hW
          go_wp2
          go_roundw
          case rel => exact ⟨m + 1, by omega, by go_num, by rw [HS.out], HN.out⟩
          case measure => simp [intOf]; omega
        · clear hall hdo hT' hdd hd hWm hW
          go_wp2
          go_roundw
          case rel => exact ⟨m + 1, by omega, by go_num, by rw [HS.out], HN.out⟩
          case measure => simp [intOf]; omega
        · obtain ⟨j, rfl⟩ := Int.eq_ofNat_of_zero_le hx
          have hj : j < N := by omega
          have he : M.ended (c'.q j) = true := by simpa [Gm.does, hj] using hdo
          obtain ⟨a, rfl, ha1, _, _, _, ha2⟩ := hT'.at_ (by omega)
          have hca := ha2 j hj
          have c1 := ended_g (hall.tk j hj)
          rw [he] at c1
          clear hall hdo hT' hdd hd ha2 he hWm hW
          go_wp2_with fail
          refine c1.mono ?_
          rintro e w' ⟨rfl, rfl⟩
          go_wp2
          go_roundw
          case rel => exact ⟨m + 1, by omega, by go_num, by rw [HS.out], HN.out⟩
          case measure => simp [intOf]; omega
      | true =>
        have hx : 0 ≤ x ∧ x < N := by simp [Gm.does] at hdo; omega
        obtain ⟨j, rfl⟩ := Int.eq_ofNat_of_zero_le hx.1
        have hj : j < N := by omega
        have he : M.ended (c'.q j) = false := by simpa [Gm.does, hj] using hdo
        obtain ⟨a, rfl, ha1, _, _, _, ha2⟩ := hT'.at_ (by omega)
        have hca := ha2 j hj
        have c1 := ended_g (hall.tk j hj)
        rw [he] at c1
        have hdj := hdd j
        have hdj2 := hd j hj
        have c2 := hall.step hM hT'.inj j hj he (hWm j hj hdo rfl) (by omega)
        have HS : Hid (M.picks N c xs (m + 1) = M.pick N c' j) := Lib.hid hS.out
        have HN : Hid ((M.picks N c xs (m + 1)).n = c'.n + 1) := Lib.hid (by rw [hS.out, pick_n hdo])
        clear hall hdo hT' hdd hd ha2 he hdj hdj2 hWm hW
        go_wp2_with fail
        refine c1.mono ?_
        rintro e w' ⟨rfl, rfl⟩
        go_wp2_with fail
        refine c2.mono ?_
        rintro e w1 ⟨⟨bb, rfl⟩, a1, a2, a3⟩
        go_wp2
        go_roundw
        case rel => exact ⟨m + 1, by omega, by go_num, by rw [HN.out]; go_num, ⟨by rw [HS.out]; exact a1, htu.trans a2, hmo.trans a3⟩⟩
        case measure => simp [intOf]; omega
    · obtain rfl : m = n := by omega
      go_wp2
      go_ret
      exact ⟨rfl, hrun⟩
end

end Go.Proofs.Ythkklcmmbpffiaa

/- Slices of int that the call itself has made. -/
namespace Go.Proofs.Ythkklcmmbpffiaa
open Go.RowKit Go.ChangeShapes Go.WideShapes

theorem int_info4 : (Try.prog.info? 3).map (fun i => (i.zero, i.size, i.bytes)) = some (some (.int .i64 0), 1, 8) := by kernel_rfl

theorem add_head4 (g i : Nat) : (Addr.mk g 0 none).add i = ⟨g, i, none⟩ := by unfold Addr.add; split <;> simp_all

/-- numbers that are ints. -/
def Ints (xs : List Int) : Prop := ∀ x, x ∈ xs → (Lit.int .i64 x).wf = true
theorem Ints.nil : Ints [] := by intro x hx; cases hx
theorem Ints.one {x : Int} (h : (Lit.int .i64 x).wf = true) : Ints [x] := by intro y hy; rw [List.mem_singleton] at hy; subst hy; exact h
theorem Ints.app {xs ys : List Int} (h : Ints xs) (k : Ints ys) : Ints (xs ++ ys) := by
  intro y hy
  rcases List.mem_append.1 hy with h1 | h1
  · exact h y h1
  · exact k y h1
theorem Ints.cons {x : Int} {ys : List Int} (h : (Lit.int .i64 x).wf = true) (k : Ints ys) : Ints (x :: ys) := Ints.app (Ints.one h) k
theorem Ints.get {xs : List Int} (h : Ints xs) (i : Nat) : (Lit.int .i64 (xs.getD i 0)).wf = true := by
  by_cases hi : i < xs.length
  · simp [List.getD, hi]; exact h _ (List.getElem_mem _)
  · simp [List.getD, hi]; decide
theorem Ints.bd {xs : List Int} (h : Ints xs) (i : Nat) : -9223372036854775808 ≤ xs.getD i 0 ∧ xs.getD i 0 ≤ 9223372036854775807 := by
  have := bounds_i64 (h.get i); omega

/-- the slice v, of the call's own from block B on, has the numbers xs. -/
structure IRow (W : World) (B : Nat) (v : Value) (xs : List Int) : Prop where
  own : W.ownsRow B 3 1 v xs.length (xs.map (Value.int .i64))
  ints : Ints xs

section
variable {W W' : World} {B : Nat} {v : Value} {xs ys : List Int}

theorem IRow.nil (W : World) (B : Nat) : IRow W B (.slice none 0 0) [] := ⟨⟨rfl, .inl ⟨rfl, rfl⟩⟩, Ints.nil⟩

/-- a slice literal, just made. -/
theorem IRow.lit (W : World) {B : Nat} (xs : List Int) (cs : Array Value) (h : cs.toList = xs.map (Value.int .i64)) (hB : B ≤ W.heap.size) (hx : Ints xs) (hl : xs.length ≤ 100000) :
    IRow (W.alloc (.cells cs 3)) B (.slice (some ⟨W.heap.size, 0, none⟩) xs.length xs.length) xs := by
  have hs : cs.size = xs.length := by rw [← Array.length_toList, h, List.length_map]
  exact ⟨⟨by simp, .inr ⟨W.heap.size, xs.length, cs, rfl, hB, heap_alloc_new W _, Nat.le_refl _, by simp only [maxLen]; omega, by rw [hs, Nat.mul_one], by rw [← h, List.take_of_length_le (by rw [h]; simp)]⟩⟩, hx⟩

theorem IRow.lt (h : IRow W B v xs) : ∀ k, v.ownBlock = some k → B ≤ k ∧ k < W.heap.size := h.own.lt

theorem IRow.kept (h : IRow W B v xs) (k : ∀ g, v.ownBlock = some g → W'.heap[g]? = W.heap[g]?) : IRow W' B v xs := by
  refine ⟨⟨h.own.1, ?_⟩, h.ints⟩
  rcases h.own.2 with h1 | ⟨g, cap, cur, h1, h2, h3, h4⟩
  · exact .inl h1
  · exact .inr ⟨g, cap, cur, h1, h2, (k g (by rw [h1]; rfl)).trans h3, h4⟩
theorem IRow.below {C : Nat} (h : IRow W B v xs) (k : Below C W W') (hC : W.heap.size ≤ C) : IRow W' B v xs :=
  h.kept fun g hg => k.block g (by have := h.lt g hg; omega)
theorem IRow.alloc (h : IRow W B v xs) (o : Obj) : IRow (W.alloc o) B v xs := h.below ((Below.refl W.heap.size W).alloc (Nat.le_refl _) o) (Nat.le_refl _)

theorem IRow.length (h : IRow W B v xs) : xs.length ≤ maxLen := by
  rcases h.own.2 with ⟨_, h0⟩ | ⟨g, cap, cur, _, _, _, h3, h4, _⟩
  · rw [h0]; simp
  · omega

/-- read as a slice that is handed in. -/
theorem IRow.row (h : IRow W B v xs) : ∃ A cp, v = .slice A xs.length cp ∧ Row W .i64 A xs.length xs := by
  have hl := h.length
  rcases h.own.2 with ⟨rfl, h0⟩ | ⟨g, cap, cur, rfl, h2, h3, _⟩
  · exact ⟨none, 0, by rw [h0], rfl, hl, h.ints, fun hn => by omega⟩
  · refine ⟨_, _, rfl, rfl, hl, h.ints, fun hn => ⟨_, rfl, Lies.lt (t := 3) h3, fun i hi => ?_⟩⟩
    rw [add_head4, h.own.cellAt i (by omega)]
    simp [List.getD, hi]

/-- one or more numbers are appended; the operation may be guarded. -/
theorem wpList_irow_g {ops : Array Oper} {rest : List Oper} {o : Oper} {a : Act} {Q : Exit → Act → World → Prop} {A : Option Addr} {m k : Nat} (h : IRow W B v xs) (hB : B ≤ W.heap.size)
    (hgd : Region.wanted o (yielded ops a.tmps) = true) (s x : Operand) (ho : o.op = .call { callee := .builtin .append, args := #[s, x], argTypes := #[31, 31] })
    (hs : a.eval s = v) (hx : a.eval x = .slice A m k) (hr : Row W .i64 A m ys) (hm : 0 < m) (hM : xs.length + m ≤ 100000)
    (hK : ∀ v' w', IRow w' B v' (xs ++ ys) → Below B W w' → W.grownBy w' v.ownBlock → wpList Try.prog ops Q rest (a.put o.dst v') w') : wpList Try.prog ops Q (o :: rest) a W := by
  obtain ⟨i0, hi0, hz0, hz1, hz2⟩ := info_parts int_info4
  obtain ⟨ad, rfl, hab, hcell⟩ := hr.at_ hm
  have hyl := hr.len
  refine wpList_step fun K hK0 => ?_
  rw [if_pos hgd]
  refine wp_append_own W s x 31 ho B 3 i0 _ 1 8 Try.underlying31 hi0 hz0 hz1 hz2 rfl (by omega) v xs.length (xs.map (Value.int .i64)) hs h.own ad m k (ys.map (Value.int .i64)) hx (by simp [hyl]) ?_ ?_ (by simp only [maxLen]; omega) (by omega) hB ?_
  · intro j u hu
    rw [List.getElem?_map] at hu
    obtain ⟨y, hy, rfl⟩ := Option.map_eq_some_iff.1 hu
    have hj : j < m := by rw [← hyl]; exact (List.getElem?_eq_some_iff.1 hy).1
    rw [hcell j hj]
    simp [List.getD, hy]
  · intro u hu
    obtain ⟨j, _, rfl⟩ := List.mem_map.1 hu
    rfl
  · intro v' w' h1 h2 _
    rw [← List.map_append, ← hyl, ← List.length_append] at h1
    exact hK0 _ _ (hK v' w' ⟨h1, h.ints.app hr.wf⟩ ((Below.refl _ _).grown h2 hB (fun k hk => (h.lt k hk).1)) h2)

/-- one or more numbers are appended. -/
theorem wpList_irow {ops : Array Oper} {rest : List Oper} {o : Oper} {a : Act} {Q : Exit → Act → World → Prop} {A : Option Addr} {m k : Nat} (h : IRow W B v xs) (hB : B ≤ W.heap.size)
    (hgd : o.guard = none) (s x : Operand) (ho : o.op = .call { callee := .builtin .append, args := #[s, x], argTypes := #[31, 31] })
    (hs : a.eval s = v) (hx : a.eval x = .slice A m k) (hr : Row W .i64 A m ys) (hm : 0 < m) (hM : xs.length + m ≤ 100000)
    (hK : ∀ v' w', IRow w' B v' (xs ++ ys) → Below B W w' → W.grownBy w' v.ownBlock → wpList Try.prog ops Q rest (a.put o.dst v') w') : wpList Try.prog ops Q (o :: rest) a W :=
  wpList_irow_g h hB (by simp only [Region.wanted, hgd]) s x ho hs hx hr hm hM hK

/-- a slice that is made within a call that began at w. -/
structure Out (w : World) (v : Value) (xs : List Int) (W : World) : Prop where
  row : IRow W w.heap.size v xs
  be : Below w.heap.size w W

/-- one number more. -/
theorem wpList_out {w : World} {n : Int} {ops : Array Oper} {rest : List Oper} {o : Oper} {a : Act} {Q : Exit → Act → World → Prop} (h : Out w v xs W) (hn : (Lit.int .i64 n).wf = true) (hl : xs.length ≤ 10000)
    (hgd : Region.wanted o (yielded ops a.tmps) = true) (s x : Operand) (ho : o.op = .call { callee := .builtin .append, args := #[s, x], argTypes := #[31, 31] })
    (hs : a.eval s = v) (hx : a.eval x = .slice (some ⟨W.heap.size, 0, none⟩) 1 1)
    (hK : ∀ v' w', Out w v' (xs ++ [n]) w' → wpList Try.prog ops Q rest (a.put o.dst v') w') : wpList Try.prog ops Q (o :: rest) a (W.alloc (.cells #[.int .i64 n] 3)) := by
  have hL := IRow.lit W (B := w.heap.size) [n] #[.int .i64 n] rfl h.be.size (Ints.one hn) (by simp)
  obtain ⟨A, cp, e, hr⟩ := hL.row
  injection e with e1 _ _
  subst e1
  refine wpList_irow_g (h.row.alloc _) (by have := h.be.size; simp; omega) hgd s x ho hs hx hr (by simp) (by simp; omega) ?_
  intro v' w' k1 k2 _
  exact hK v' w' ⟨k1, (h.be.alloc h.be.size _).trans k2⟩

/-- nothing is appended, to a slice that isn't nil. -/
theorem wpList_irow_zero {P : Program} {w : World} {ops : Array Oper} {rest : List Oper} {o : Oper} {a : Act} {Q : Exit → Act → World → Prop} (hgd : o.guard = none) (s x : Operand) (t : TypeId)
    (ho : o.op = .call { callee := .builtin .append, args := #[s, x], argTypes := #[t, t] })
    (e : TypeId) (i : TypeInfo) (ht : P.underlying t = some (.slice e)) (hi : P.info? e = some i)
    (g : Addr) (m k : Nat) (A : Option Addr) (l c : Nat) (hl : l = 0) (hmk : m ≤ k) (hs : a.eval s = .slice (some g) m k) (hx : a.eval x = .slice A l c)
    (h : wpList P ops Q rest (a.put o.dst (.slice (some g) m k)) w) : wpList P ops Q (o :: rest) a w := by
  subst hl
  refine wpList_plain hgd fun K hK => ?_
  have hrun : (Builtin.append_ #[t, t] o.type #[.slice (some g) m k, .slice A 0 c]).run P w = .ok (.slice (some g) m k) w := by
    cases A <;> simp [Builtin.append_, run_underlying ht, sizeOf, typeInfo, hi, Builtin.lenOf, Builtin.firstCells, hmk, storeCells, loadCells, loadCellsFrom]
  unfold Oper.wp
  simp [execOp, ho, resolve, invoke, builtin, hs, hx, hrun, Result.andThen]
  exact hK _ _ h
end

end Go.Proofs.Ythkklcmmbpffiaa

/- Layer 8's workers as a machine. -/
namespace Go.Proofs.Ythkklcmmbpffiaa
open Go.RowKit
set_option maxRecDepth 100000

/-- an arena's numbers and accesses; what workers hold, what they were told, and their marks. -/
structure SSt where
  l : List Int
  k : Int
  hs : Nat → List Int
  gt : Nat → List Int
  bu : Nat → Bool
  ba : Nat → Bool
  wr : Nat → Bool

/-- what an act is about: to read the head, the link (of a head that was read), to turn the head; the same of a Push. -/
inductive Mic
  | done
  | popR
  | popN (o : Int)
  | popT (o y : Int)
  | pushR (i : Int)
  | pushS (i o : Int)
  | pushT (i o : Int)

/-- a worker's program: which one, what is to be done next, what behind it. -/
structure SPr where
  j : Nat
  m : Mic
  l : List Bool

/-- behind a Pop, behind a Push. -/
def SSt.popped (s : SSt) (g : Bool) (j : Nat) (i : Int) (ok : Bool) : SSt :=
  { s with wr := updF s.wr j (s.wr j || (!ok && !s.ba j) || (ok != decide (0 ≤ i))), bu := updF s.bu j false, gt := if g = true then updF s.gt j (s.gt j ++ [i]) else s.gt, hs := if ok = true then updF s.hs j (s.hs j ++ [i]) else s.hs }
def SSt.pushed (s : SSt) (j : Nat) : SSt := { s with hs := updF s.hs j (s.hs j).dropLast }
/-- the next act is begun. -/
def startS (j : Nat) : List Bool → SSt → SPr × SSt
  | [], s => (⟨j, .done, []⟩, s)
  | true :: l, s => (⟨j, .popR, l⟩, { s with bu := updF s.bu j true, ba := updF s.ba j false })
  | false :: l, s => match (s.hs j).getLast? with
    | none => startS j l s
    | some i => (⟨j, .pushR i, l⟩, s)

/-- where all lies: the arena, workers, what they were told; how many things there are, and workers. -/
structure SP where
  p : Nat
  c : Nat
  B : Nat
  n : Nat
  nw : Nat
  wb : Nat → Nat
  gp : Nat → Option Nat
  /-- blocks that the law writes between steps. -/
  ex : List Nat

/-- the numbers of a stack of n things. -/
structure SOk (n : Nat) (l : List Int) : Prop where
  len : l.length = n + 1
  head : N64 (getA l 0) ∧ hIx (getA l 0) < n
  link : ∀ i : Nat, i < n → getA l ((i : Int) + 1) ≤ n

def SP.gotV (P : SP) (j : Nat) : Value := match P.gp j with
  | none => .pointer none
  | some g => ptr g
def SP.has (P : SP) (j : Nat) : Bool := (P.gp j).isSome
/-- the cells that tell rows. -/
def SP.ws (P : SP) : List Addr := (List.range P.nw).map (fun j => ⟨P.wb j, 0, none⟩) ++ (List.range P.nw).filterMap (fun j => (P.gp j).map fun g => ⟨g, 0, none⟩)
def SP.L (P : SP) : List Nat := P.p :: P.c :: ((List.range P.nw).map P.wb ++ (List.range P.nw).filterMap P.gp)

def intVs (xs : List Int) : List Value := xs.map (Value.int .i64)

/-- the state in memory. -/
structure SI (P : SP) (r : Nat) (s : SSt) (w : World) : Prop where
  ar : Arena w P.p P.c s.l s.k
  room : s.k + r ≤ 4611686018427387904
  ok : SOk P.n s.l
  wk : ∀ j, j < P.nw → ∃ v, Lies w (P.wb j) 34 #[v, P.gotV j, .bool (s.bu j), .bool (s.ba j), .bool (s.wr j)] ∧ w.ownsRow P.B 3 1 v (s.hs j).length (intVs (s.hs j))
  gt : ∀ j g, j < P.nw → P.gp j = some g → ∃ v, Lies w g 31 #[v] ∧ w.ownsRow P.B 3 1 v (s.gt j).length (intVs (s.gt j))
  hb : ∀ j, j < P.nw → ∀ i, i ∈ s.hs j → 0 ≤ i ∧ i < P.n
  size : ∀ j, j < P.nw → (s.hs j).length + r ≤ 5000 ∧ (s.gt j).length + r ≤ 5000
  apart : ∀ a b, a ∈ P.ws → b ∈ P.ws → a ≠ b → ∀ g o n c o' n' c', w.cell? a = some (.slice (some ⟨g, o, none⟩) n c) → w.cell? b ≠ some (.slice (some ⟨g, o', none⟩) n' c')
  exl : ∀ b, b ∈ P.ex → b < w.heap.size

def skStep (P : SP) (q : SPr) (s : SSt) : SPr × SSt :=
  match q.m with
  | .done => (q, s)
  | .popR => if hIx (getA s.l 0) = -1 then startS q.j q.l (({ s with k := moreA s.l 0 s.k } : SSt).popped (P.has q.j) q.j (-1) false) else (⟨q.j, .popN (getA s.l 0), q.l⟩, { s with k := moreA s.l 0 s.k })
  | .popN o => (⟨q.j, .popT o (nxOf (getA s.l (hIx o + 1))), q.l⟩, { s with k := moreA s.l (hIx o + 1) s.k })
  | .popT o y => if casB s.l 0 o = true then startS q.j q.l (({ s with l := casA s.l 0 o (newH o y), k := moreA s.l 0 s.k } : SSt).popped (P.has q.j) q.j (hIx o) true) else (⟨q.j, .popR, q.l⟩, { s with l := casA s.l 0 o (newH o y), k := moreA s.l 0 s.k })
  | .pushR i => (⟨q.j, .pushS i (getA s.l 0), q.l⟩, { s with k := moreA s.l 0 s.k })
  | .pushS i o => (⟨q.j, .pushT i o, q.l⟩, { s with l := setA s.l (i + 1) (hIx o + 1), k := moreA s.l (i + 1) s.k })
  | .pushT i o => if casB s.l 0 o = true then startS q.j q.l (({ s with l := casA s.l 0 o (newH o i), k := moreA s.l 0 s.k } : SSt).pushed q.j) else (⟨q.j, .pushR i, q.l⟩, { s with l := casA s.l 0 o (newH o i), k := moreA s.l 0 s.k })

def SM (P : SP) : Gm SSt SPr where
  ended q := match q.m with
    | .done => true
    | _ => false
  step := skStep P
  W q s := match q.m with
    | .pushR _ => s.hs q.j ≠ []
    | .pushS _ _ => s.hs q.j ≠ []
    | .pushT _ _ => s.hs q.j ≠ []
    | _ => True
  I := SI P
  J r s w := SI P r s w ∧ ∀ j, j < P.nw → (s.hs j).length + r + 1 ≤ 5000 ∧ (s.gt j).length + r + 1 ≤ 5000
  B := P.B
  L := P.L
  ws := P.ws
  X := P.ex

/-- what is asked of the blocks. -/
structure SP.Good (P : SP) : Prop where
  low : P.B ≤ P.p ∧ P.B ≤ P.c ∧ (∀ j, j < P.nw → P.B ≤ P.wb j) ∧ ∀ j g, j < P.nw → P.gp j = some g → P.B ≤ g
  inj : ∀ i j, i < P.nw → j < P.nw → P.wb i = P.wb j → i = j
  ginj : ∀ i j g, i < P.nw → j < P.nw → P.gp i = some g → P.gp j = some g → i = j
  sep : P.p ≠ P.c ∧ (∀ j, j < P.nw → P.wb j ≠ P.p ∧ P.wb j ≠ P.c) ∧ (∀ j g, j < P.nw → P.gp j = some g → g ≠ P.p ∧ g ≠ P.c) ∧ ∀ i j g, i < P.nw → j < P.nw → P.gp j = some g → P.wb i ≠ g
  few : P.n ≤ 1000

section
variable {P : SP}
theorem SP.ws_mem {a : Addr} : a ∈ P.ws ↔ (∃ j, j < P.nw ∧ a = ⟨P.wb j, 0, none⟩) ∨ ∃ j g, j < P.nw ∧ P.gp j = some g ∧ a = ⟨g, 0, none⟩ := by
  unfold SP.ws
  rw [List.mem_append, List.mem_map, List.mem_filterMap]
  constructor
  · rintro (⟨j, hj, rfl⟩ | ⟨j, hj, he⟩)
    · exact .inl ⟨j, List.mem_range.1 hj, rfl⟩
    · obtain ⟨g, hg, rfl⟩ := Option.map_eq_some_iff.1 he
      exact .inr ⟨j, g, List.mem_range.1 hj, hg, rfl⟩
  · rintro (⟨j, hj, rfl⟩ | ⟨j, g, hj, hg, rfl⟩)
    · exact .inl ⟨j, List.mem_range.2 hj, rfl⟩
    · exact .inr ⟨j, List.mem_range.2 hj, by rw [hg]; rfl⟩
theorem SP.L_mem {b : Nat} : b ∈ P.L ↔ b = P.p ∨ b = P.c ∨ (∃ j, j < P.nw ∧ P.wb j = b) ∨ ∃ j, j < P.nw ∧ P.gp j = some b := by
  unfold SP.L
  simp only [List.mem_cons, List.mem_append, List.mem_map, List.mem_filterMap, List.mem_range]
theorem own_lies {w : World} {B : Nat} {v : Value} {n : Nat} {xs : List Value} {g o m c : Nat} (h : w.ownsRow B 3 1 v n xs) (e : v = .slice (some ⟨g, o, none⟩) m c) : B ≤ g ∧ ∃ cur, Lies w g 3 cur := by
  rcases h.2 with ⟨h0, _⟩ | ⟨g', cap, cur, hv, hb, hg, _⟩
  · rw [h0] at e; cases e
  · rw [hv] at e
    injection e with e
    injection e with e
    injection e with e
    subst e
    exact ⟨hb, cur, hg⟩
theorem own_keep {w w' : World} {B : Nat} {v : Value} {n : Nat} {xs : List Value} (h : w.ownsRow B 3 1 v n xs) (k : ∀ g, v.ownBlock = some g → w'.heap[g]? = w.heap[g]?) : w'.ownsRow B 3 1 v n xs := by
  refine ⟨h.1, ?_⟩
  rcases h.2 with h1 | ⟨g, cap, cur, h1, h2, h3, h4⟩
  · exact .inl h1
  · exact .inr ⟨g, cap, cur, h1, h2, (k g (by rw [h1]; rfl)).trans h3, h4⟩
theorem own_block {w : World} {B : Nat} {v : Value} {n : Nat} {xs : List Value} {g : Nat} (h : w.ownsRow B 3 1 v n xs) (e : v.ownBlock = some g) : B ≤ g ∧ ∃ cur, Lies w g 3 cur := by
  rcases h.2 with ⟨rfl, _⟩ | ⟨g', cap, cur, rfl, hb, hg, _⟩
  · cases e
  · simp [Value.ownBlock] at e
    subst e
    exact ⟨hb, cur, hg⟩

/-- a row's cell, and what it tells. -/
theorem SI.row {r : Nat} {s : SSt} {w : World} (h : SI P r s w) {a : Addr} (ha : a ∈ P.ws) : ∃ v n xs, w.cell? a = some v ∧ w.ownsRow P.B 3 1 v n xs := by
  rcases SP.ws_mem.1 ha with ⟨j, hj, rfl⟩ | ⟨j, g, hj, hg, rfl⟩
  · obtain ⟨v, hl, ho⟩ := h.wk j hj
    exact ⟨v, _, _, hl.cell 0, ho⟩
  · obtain ⟨v, hl, ho⟩ := h.gt j g hj hg
    exact ⟨v, _, _, hl.cell 0, ho⟩
theorem SI.rw {r : Nat} {s : SSt} {w : World} (h : SI P r s w) {b : Nat} (hb : Rw P.ws w b) : P.B ≤ b ∧ ∃ cur, Lies w b 3 cur := by
  obtain ⟨a, ha, o, n, c, e⟩ := hb
  obtain ⟨v, n', xs, hc, ho⟩ := h.row ha
  rw [hc] at e
  injection e with e
  exact own_lies ho e

/-- worlds in which nothing of the state's own has turned. -/
theorem SI.keep {r : Nat} {s : SSt} {w w' : World} (h : SI P r s w) (k : ∀ b, b < w.heap.size → (b ∈ P.L ∨ Rw P.ws w b) → w'.heap[b]? = w.heap[b]?) (ksz : w.heap.size ≤ w'.heap.size) : SI P r s w' := by
  have kl : ∀ {b : Nat} {t : TypeId} {cs : Array Value}, b ∈ P.L → Lies w b t cs → Lies w' b t cs := fun hb hl => (k _ hl.lt (.inl hb)).trans hl
  have lw : ∀ j, j < P.nw → P.wb j ∈ P.L := fun j hj => SP.L_mem.2 (.inr (.inr (.inl ⟨j, hj, rfl⟩)))
  have lg : ∀ j g, j < P.nw → P.gp j = some g → g ∈ P.L := fun j g hj hg => SP.L_mem.2 (.inr (.inr (.inr ⟨j, hj, hg⟩)))
  have cl : ∀ a, a ∈ P.ws → w'.cell? a = w.cell? a := fun a ha => by
    refine World.cell?_of_block (w := w) (k _ ?_ (.inl ?_))
    · rcases SP.ws_mem.1 ha with ⟨j, hj, rfl⟩ | ⟨j, g, hj, hg, rfl⟩
      · obtain ⟨v, hl, _⟩ := h.wk j hj; exact hl.lt
      · obtain ⟨v, hl, _⟩ := h.gt j g hj hg; exact hl.lt
    · rcases SP.ws_mem.1 ha with ⟨j, hj, rfl⟩ | ⟨j, g, hj, hg, rfl⟩
      · exact lw j hj
      · exact lg j g hj hg
  have ow : ∀ {a : Addr} {v : Value} {n : Nat} {xs : List Value}, a ∈ P.ws → w.cell? a = some v → w.ownsRow P.B 3 1 v n xs → w'.ownsRow P.B 3 1 v n xs := fun ha hc ho => own_keep ho fun g hg => by
    obtain ⟨_, cur, hl⟩ := own_block ho hg
    refine k g hl.lt (.inr ?_)
    rcases ho.2 with ⟨rfl, _⟩ | ⟨g', cap, cur, rfl, _, _, _⟩
    · cases hg
    · simp [Value.ownBlock] at hg
      subst hg
      exact ⟨_, ha, _, _, _, hc⟩
  refine ⟨⟨kl (SP.L_mem.2 (.inl rfl)) h.ar.head, kl (SP.L_mem.2 (.inr (.inl rfl))) h.ar.body, h.ar.pos, h.ar.most, h.ar.fit, h.ar.k0⟩, h.room, h.ok, fun j hj => ?_, fun j g hj hg => ?_, h.hb, h.size, fun a b ha hb hab g o n c o' n' c' e => ?_, fun b hb => Nat.lt_of_lt_of_le (h.exl b hb) ksz⟩
  · obtain ⟨v, hl, ho⟩ := h.wk j hj
    exact ⟨v, kl (lw j hj) hl, ow (SP.ws_mem.2 (.inl ⟨j, hj, rfl⟩)) (hl.cell 0) ho⟩
  · obtain ⟨v, hl, ho⟩ := h.gt j g hj hg
    exact ⟨v, kl (lg j g hj hg) hl, ow (SP.ws_mem.2 (.inr ⟨j, g, hj, hg, rfl⟩)) (hl.cell 0) ho⟩
  · rw [cl a ha] at e
    rw [cl b hb]
    exact h.apart a b ha hb hab g o n c o' n' c' e

theorem int_not_loose : (3 : TypeId) ∉ loose := by decide
theorem worker_not_loose : (34 : TypeId) ∉ loose := by decide
theorem got_not_loose : (31 : TypeId) ∉ loose := by decide

theorem IsTask.ne {B : Nat} {w : World} {b : Nat} {t : TypeId} {cs : Array Value} (h : IsTask B w b) (l : Lies w b t cs) (ht : t ∉ loose) : False := by
  obtain ⟨_, t', ds, hl, hd⟩ := h
  unfold Lies at l hd
  rw [l] at hd
  injection hd with hd
  injection hd with _ hd
  subst hd
  exact ht hl

theorem SI.tasks {P : SP} {r : Nat} {s : SSt} {w w' : World} (k : Mv P.B [] [] w w') (h : SI P r s w) : SI P r s w' := by
  refine SI.keep h (fun b hb hm => ?_) k.size
  have lies : ∃ t cs, Lies w b t cs ∧ t ∉ loose := by
    rcases hm with hm | hm
    · rcases SP.L_mem.1 hm with rfl | rfl | ⟨j, hj, rfl⟩ | ⟨j, hj, hg⟩
      · exact ⟨_, _, h.ar.head, by decide⟩
      · exact ⟨_, _, h.ar.body, by decide⟩
      · obtain ⟨v, hl, _⟩ := h.wk j hj; exact ⟨_, _, hl, worker_not_loose⟩
      · obtain ⟨v, hl, _⟩ := h.gt j b hj hg; exact ⟨_, _, hl, got_not_loose⟩
    · obtain ⟨_, cur, hl⟩ := h.rw hm
      exact ⟨_, _, hl, int_not_loose⟩
  obtain ⟨t, cs, hl, ht⟩ := lies
  rcases k.block b hb (by simp) (by rintro ⟨a, ha, _⟩; cases ha) with e | e
  · exact e
  · exact (e.ne hl ht).elim

theorem sm_low (P : SP) (hG : P.Good) (b : Nat) (hb : b ∈ (SM P).L) : P.B ≤ b := by
  obtain ⟨l1, l2, l3, l4⟩ := hG.low
  rcases SP.L_mem.1 hb with rfl | rfl | ⟨j, hj, rfl⟩ | ⟨j, hj, hg⟩
  · exact l1
  · exact l2
  · exact l3 j hj
  · exact l4 j b hj hg
theorem sm_ok (P : SP) (hG : P.Good) : (SM P).Ok where
  less r s w h := ⟨h.ar, by have := h.room; omega, h.ok, h.wk, h.gt, h.hb, fun j hj => by have := h.size j hj; omega, h.apart, h.exl⟩
  task r s w w' k h := SI.tasks k h
  ji r s w h := h.1
  jtask r s w w' k h := ⟨SI.tasks k h.1, h.2⟩
  idle r s w h := ⟨⟨h.ar, by have := h.room; omega, h.ok, h.wk, h.gt, h.hb, fun j hj => by have := h.size j hj; omega, h.apart, h.exl⟩, fun j hj => by have := SI.size h j hj; omega⟩
  okw r s w h := by
    refine ⟨fun b hb => ?_, h.exl, ?_, fun b hb => ?_⟩
    · rcases SP.L_mem.1 hb with rfl | rfl | ⟨j, hj, rfl⟩ | ⟨j, hj, hg⟩
      · exact h.ar.head.lt
      · exact h.ar.body.lt
      · obtain ⟨v, hl, _⟩ := h.wk j hj; exact hl.lt
      · obtain ⟨v, hl, _⟩ := h.gt j b hj hg; exact hl.lt
    · have := h.ar.head.lt
      have := hG.low.1
      show P.B ≤ _
      omega
    · obtain ⟨h1, cur, hl⟩ := h.rw hb
      exact ⟨h1, hl.lt⟩
  cells a ha := by
    rcases SP.ws_mem.1 ha with ⟨j, hj, rfl⟩ | ⟨j, g, hj, hg, rfl⟩
    · exact SP.L_mem.2 (.inr (.inr (.inl ⟨j, hj, rfl⟩)))
    · exact SP.L_mem.2 (.inr (.inr (.inr ⟨j, hj, hg⟩)))
end

end Go.Proofs.Ythkklcmmbpffiaa

/- Layer 8's workers: the arena, what a Pop and a Push do. -/
namespace Go.Proofs.Ythkklcmmbpffiaa
open Go.RowKit
set_option maxRecDepth 100000

theorem getA_setA (l : List Int) (i j v : Int) : getA (setA l i v) j = if j = i ∧ hasA l i = true then v else getA l j := by
  rcases hasA_cases l i with hi | ⟨n, rfl, hn⟩
  · rw [setA_out hi, if_neg (by rw [hi]; simp)]
  · rw [setA_nat hn, hasA_yes hn]
    by_cases hj : j = (n : Int)
    · subst hj
      rw [if_pos ⟨rfl, rfl⟩, getA_nat (by simpa using hn)]
      simp
    · rw [if_neg (by simp [hj])]
      rcases hasA_cases l j with h | ⟨m, rfl, hm⟩
      · rw [getA_out h, getA_out]
        unfold hasA at h ⊢
        simpa using h
      · rw [getA_nat hm, getA_nat (by simpa using hm)]
        have : n ≠ m := fun e => hj (by rw [e])
        simp [this]
theorem getA_casA (l : List Int) (i j o v : Int) : getA (casA l i o v) j = if j = i ∧ casB l i o = true then v else getA l j := by
  unfold casA
  cases h : casB l i o with
  | false => simp
  | true =>
    simp only [if_true]
    rw [getA_setA]
    have : hasA l i = true := by unfold casB at h; simp at h; exact h.1
    simp [this]
theorem hIx_newH {v i : Int} (hi : Ix0 i) : hIx (newH v i) = i := by unfold Ix0 at hi; unfold hIx newH; omega
theorem hCt_newH {v i : Int} (hi : Ix0 i) : hCt (newH v i) = (hCt v + 1) % 4294967296 := by unfold Ix0 at hi; unfold newH; unfold hCt; omega

section
variable {n : Nat} {l : List Int}
theorem SOk.turn (h : SOk n l) {o i : Int} (hi : Ix0 i) (hn : i < n) : SOk n (casA l 0 o (newH o i)) := by
  refine ⟨by rw [casA_len]; exact h.len, ?_, fun j hj => ?_⟩
  · rw [getA_casA]
    split
    · exact ⟨newH_in hi, by rw [hIx_newH hi]; exact hn⟩
    · exact h.head
  · rw [getA_casA, if_neg (by omega)]
    exact h.link j hj
theorem SOk.lay (h : SOk n l) {o i : Int} (ho : hIx o < n) (hi : 0 ≤ i) : SOk n (setA l (i + 1) (hIx o + 1)) := by
  refine ⟨by rw [setA_length]; exact h.len, ?_, fun j hj => ?_⟩
  · rw [getA_setA, if_neg (by omega)]
    exact h.head
  · rw [getA_setA]
    split
    · omega
    · exact h.link j hj
end

section
variable {P : SP}
theorem SI.aft (hG : P.Good) {r : Nat} {s : SSt} {w w' : World} {l' : List Int} {k' : Int} (h : SI P (r + 1) s w) (ha : Aft w P.p P.c l' k' w') (ho : SOk P.n l') (hk : k' ≤ s.k + 1) : (SM P).J r { s with l := l', k := k' } w' := by
  obtain ⟨_, s2, s3, _⟩ := hG.sep
  have out : ∀ {b : Nat}, b ≠ P.p → b ≠ P.c → b ∉ [P.p, P.c] := fun h1 h2 => by simp; exact ⟨h1, h2⟩
  have own : ∀ {v : Value} {n : Nat} {xs : List Value}, w.ownsRow P.B 3 1 v n xs → w'.ownsRow P.B 3 1 v n xs := fun hr => own_keep hr fun g hg => by
    obtain ⟨_, cur, hl⟩ := own_block hr hg
    exact ha.2.block g hl.lt (out (hl.unlike h.ar.head (by decide)) (hl.unlike h.ar.body (by decide)))
  have cl : ∀ a, a ∈ P.ws → w'.cell? a = w.cell? a := fun a hm => by
    rcases SP.ws_mem.1 hm with ⟨j, hj, rfl⟩ | ⟨j, g, hj, hg, rfl⟩
    · obtain ⟨v, hl, _⟩ := h.wk j hj
      exact ha.2.cell hl.lt (out (s2 j hj).1 (s2 j hj).2)
    · obtain ⟨v, hl, _⟩ := h.gt j g hj hg
      exact ha.2.cell hl.lt (out (s3 j g hj hg).1 (s3 j g hj hg).2)
  refine ⟨⟨ha.1, by have := h.room; show k' + _ ≤ _; omega, ho, fun j hj => ?_, fun j g hj hg => ?_, h.hb, fun j hj => ⟨by have := (h.size j hj).1; show (s.hs j).length + _ ≤ _; omega, by have := (h.size j hj).2; show (s.gt j).length + _ ≤ _; omega⟩, fun a b h1 h2 hab g o n c o' n' c' e => ?_, fun b hb => Nat.lt_of_lt_of_le (h.exl b hb) ha.2.size⟩, fun j hj => ⟨by have := (h.size j hj).1; show (s.hs j).length + _ + 1 ≤ _; omega, by have := (h.size j hj).2; show (s.gt j).length + _ + 1 ≤ _; omega⟩⟩
  · obtain ⟨v, hl, hr⟩ := h.wk j hj
    exact ⟨v, hl.turn ha.2 (out (s2 j hj).1 (s2 j hj).2), own hr⟩
  · obtain ⟨v, hl, hr⟩ := h.gt j g hj hg
    exact ⟨v, hl.turn ha.2 (out (s3 j g hj hg).1 (s3 j g hj hg).2), own hr⟩
  · rw [cl a h1] at e
    rw [cl b h2]
    exact h.apart a b h1 h2 hab g o n c o' n' c' e

def smAr (P : SP) (hG : P.Good) : (SM P).Ar P.p P.c where
  l s := s.l
  k s := s.k
  put s l k := { s with l := l, k := k }
  hp := SP.L_mem.2 (.inl rfl)
  hc := SP.L_mem.2 (.inr (.inl rfl))
  sep a ha := by
    obtain ⟨_, s2, s3, _⟩ := hG.sep
    have ha : a ∈ P.ws := ha
    rcases SP.ws_mem.1 ha with ⟨j, hj, rfl⟩ | ⟨j, g, hj, hg, rfl⟩
    · exact s2 j hj
    · exact s3 j g hj hg
  ok := SOk P.n
  okI r s w h := h.ok
  ar r s w h := h.ar
  room r s w h := by have := SI.room h; omega
  aft r s w w' l' k' h ha ho _ hk := SI.aft hG h ha ho hk

theorem sm_ch (P : SP) (hG : P.Good) : Gm.ChOk (smAr P hG) 0 (fun i => i + 1) (fun o => hIx o < P.n) (fun x => x ≤ P.n) (fun i => 0 ≤ i ∧ i < P.n) where
  hd l h := h.head.2
  nx l o h ho hn := by
    have h1 := hIx_ix hn
    unfold Ix at h1
    obtain ⟨j, hj⟩ := Int.eq_ofNat_of_zero_le h1.1
    have := h.link j (by omega)
    rw [hj]
    exact this
  tk l o x h ho _ _ hx hu := by
    have hin := nxOf_in hx
    have : nxOf x < P.n := by unfold nxOf; split <;> omega
    exact SOk.turn h hin this
  ly l o i h ho hy := SOk.lay h ho hy.1
  tn l o i h _ _ hy := by
    have := hG.few
    exact SOk.turn h (by unfold Ix0; omega) hy.2
  ix i hy := by have := hG.few; unfold Ix; omega
  room l i h hy := by
    have hl := h.len
    constructor
    · rw [hasA_iff]; omega
    · rw [hasA_iff]; omega

theorem sm_pop (P : SP) (hG : P.Good) (j : Nat) (l : List Bool) : Gm.PopQ (smAr P hG) 0 (fun i => i + 1) ⟨j, .popR, l⟩ (fun o => ⟨j, .popN o, l⟩) (fun o y => ⟨j, .popT o y, l⟩) (fun _ _ _ => True) (fun i ok s => startS j l (s.popped (P.has j) j i ok)) where
  eR := rfl
  eN _ := rfl
  eT _ _ := rfl
  sR _ := rfl
  sN _ _ := rfl
  sT _ _ _ := rfl
  wR _ _ _ _ := trivial
  wT _ _ _ _ _ _ := trivial

theorem sm_push (P : SP) (hG : P.Good) (j : Nat) (i : Int) (l : List Bool) : Gm.PushQ (smAr P hG) 0 (fun i => i + 1) i ⟨j, .pushR i, l⟩ (fun o => ⟨j, .pushS i o, l⟩) (fun o => ⟨j, .pushT i o, l⟩) (fun s => s.hs j ≠ []) (fun s => startS j l (s.pushed j)) where
  eR := rfl
  eS _ := rfl
  eT _ := rfl
  sR _ := rfl
  sS _ _ := rfl
  sT _ _ := rfl
  wT _ _ _ hw _ := hw

theorem ent_link : Ent 38 := ent_of Try.func38 (by kernel_rfl) (by kernel_rfl)
theorem link_any (i : Int) (hi : Ix i) (w : World) : Calls Try.prog 38 #[.int .i64 i] w fun e w' => e = .returned (.int .i64 (i + 1)) ∧ w' = w := by
  unfold Ix at hi
  go_enter Try.func38, Try.ntmps38
  go_wp2
  go_ret
  exact ⟨ret_int (by go_num), rfl⟩
theorem sm_lk (P : SP) (w : World) : (SM P).Lk w 38 #[] (fun i => i + 1) := ⟨ent_link, fun w' i _ hi => (link_any i hi w').mono fun e w2 h => ⟨h.1, by rw [h.2]; exact Turns.refl _ _⟩⟩
end

end Go.Proofs.Ythkklcmmbpffiaa

/- Layer 8's workers: their marks and rows written; slices of bools. -/
namespace Go.Proofs.Ythkklcmmbpffiaa
open Go.RowKit
set_option maxRecDepth 100000

/-- where the rest of a slice begins. -/
def tailO (A : Option Addr) (cp : Nat) : Option Addr := if cp = 1 then A else A.map (·.add 1)
theorem slice_tail1 {t : TypeId} {e : TypeId} (ht : Try.prog.underlying t = some (.slice e)) (h1 : (Try.prog.info? e).map (·.size) = some 1) (A : Option Addr) (n cp : Nat) (hk : 1 ≤ n) (W : World) :
    (Instr.sliceAt t (.slice A n cp) (some (.int .i64 1)) none none).run Try.prog W = .ok (.slice (tailO A cp) (n - 1) (cp - 1)) W := by
  obtain ⟨i, hi, hz⟩ := Option.map_eq_some_iff.1 h1
  unfold tailO
  simp [Instr.sliceAt, Instr.slice, run_underlying ht, Instr.sliceBounds, Instr.sliceBound, asIntOf, sizeOf, typeInfo, hi, hz]
  intro h; omega
/-- the first k of a slice. -/
def headO (A : Option Addr) (cp : Nat) : Option Addr := if cp = 0 then A else A.map (·.add 0)
theorem headO_some (g cp : Nat) : headO (some ⟨g, 0, none⟩) cp = some ⟨g, 0, none⟩ := by unfold headO; split <;> simp [Addr.add]
theorem slice_head1 {t : TypeId} {e : TypeId} (ht : Try.prog.underlying t = some (.slice e)) (h1 : (Try.prog.info? e).map (·.size) = some 1) (A : Option Addr) (n cp k : Nat) (hk : k ≤ cp) (W : World) :
    (Instr.sliceAt t (.slice A n cp) none (some (.int .i64 (k : Int))) none).run Try.prog W = .ok (.slice (headO A cp) k cp) W := by
  obtain ⟨i, hi, hz⟩ := Option.map_eq_some_iff.1 h1
  unfold headO
  simp [Instr.sliceAt, Instr.slice, run_underlying ht, Instr.sliceBounds, Instr.sliceBound, asIntOf, sizeOf, typeInfo, hi]
  intro h; omega

/-- bools in memory that nothing writes. -/
structure BL (P : SP) (w : World) (A : Option Addr) (bs : List Bool) : Prop where
  most : bs.length ≤ 100000
  at_ : 0 < bs.length → ∃ a, A = some a ∧ a.block < w.heap.size ∧ a.block ∉ P.L ++ P.ex ∧ ¬ Rw P.ws w a.block ∧ ¬ IsTask P.B w a.block ∧ ∀ i, i < bs.length → w.cell? (a.add i) = some (.bool (bs.getD i false))
section
variable {P : SP} {w w' : World} {A : Option Addr} {bs : List Bool}
theorem BL.mv (h : BL P w A bs) (k : Mv P.B (P.L ++ P.ex) P.ws w w') : BL P w' A bs :=
  ⟨h.most, fun hn => by
    obtain ⟨a, e, h1, h2, h3, h4, h5⟩ := h.at_ hn
    have hb : w'.heap[a.block]? = w.heap[a.block]? := by
      rcases k.block _ h1 h2 h3 with e | e
      · exact e
      · exact absurd e h4
    refine ⟨a, e, Nat.lt_of_lt_of_le h1 k.size, h2, k.row h1 h3, fun q => h4 (q.of_same hb.symm), fun i hi => ?_⟩
    exact (World.cell?_of_block (w := w) (by rw [add_block]; exact hb)).trans (h5 i hi)⟩
theorem BL.tail {b : Bool} {cp : Nat} (h : BL P w A (b :: bs)) (hc : bs.length + 1 ≤ cp) : BL P w (tailO A cp) bs :=
  ⟨by have := h.most; simp at this; omega, fun hn => by
    obtain ⟨a, rfl, h1, h2, h3, h4, h5⟩ := h.at_ (by simp)
    refine ⟨a.add 1, by unfold tailO; rw [if_neg (by omega)]; rfl, by rw [add_block]; exact h1, by rw [add_block]; exact h2, by rw [add_block]; exact h3, by rw [add_block]; exact h4, fun i hi => ?_⟩
    have := h5 (i + 1) (by simp; omega)
    rw [Go.Deep.add_add, show 1 + i = i + 1 by omega]
    simpa using this⟩
theorem BL.head {b : Bool} (h : BL P w A (b :: bs)) : ∃ a, A = some a ∧ w.cell? a = some (.bool b) := by
  obtain ⟨a, e, _, _, _, _, h5⟩ := h.at_ (by simp)
  have := h5 0 (by simp)
  refine ⟨a, e, ?_⟩
  have e0 : a.add 0 = a := by simp [Addr.add]
  rw [e0] at this
  simpa using this
end

/-- a mark of a worker. -/
def SSt.mark (s : SSt) (j k : Nat) (b : Bool) : SSt := if k = 2 then { s with bu := updF s.bu j b } else if k = 3 then { s with ba := updF s.ba j b } else { s with wr := updF s.wr j b }

section
variable {P : SP} {r : Nat} {s : SSt} {w : World}
theorem SI.in_ws (j : Nat) (hj : j < P.nw) : (⟨P.wb j, 0, none⟩ : Addr) ∈ P.ws := SP.ws_mem.2 (.inl ⟨j, hj, rfl⟩)
theorem SI.in_L (j : Nat) (hj : j < P.nw) : P.wb j ∈ P.L := SP.L_mem.2 (.inr (.inr (.inl ⟨j, hj, rfl⟩)))

theorem SI.mark (hG : P.Good) (h : SI P r s w) (j : Nat) (hj : j < P.nw) (k : Nat) (hk : k = 2 ∨ k = 3 ∨ k = 4) (b : Bool) : SI P r (s.mark j k b) (w.setCell ⟨P.wb j, k, none⟩ (.bool b)) := by
  obtain ⟨_, s2, s3, s4⟩ := hG.sep
  have e1 : (s.mark j k b).l = s.l ∧ (s.mark j k b).k = s.k ∧ (s.mark j k b).hs = s.hs ∧ (s.mark j k b).gt = s.gt := by
    unfold SSt.mark
    split
    · exact ⟨rfl, rfl, rfl, rfl⟩
    · split <;> exact ⟨rfl, rfl, rfl, rfl⟩
  obtain ⟨el, ek, eh, eg⟩ := e1
  have own : ∀ {v : Value} {n : Nat} {xs : List Value}, w.ownsRow P.B 3 1 v n xs → (w.setCell ⟨P.wb j, k, none⟩ (.bool b)).ownsRow P.B 3 1 v n xs := fun hr => own_keep hr fun g hg => by
    obtain ⟨_, cur, hl⟩ := own_block hr hg
    obtain ⟨v, hw, _⟩ := h.wk j hj
    exact Below.heap_setCell w ⟨P.wb j, k, none⟩ _ g (hl.unlike hw (by decide))
  have cl : ∀ a, a ∈ P.ws → (w.setCell ⟨P.wb j, k, none⟩ (.bool b)).cell? a = w.cell? a := fun a ha => by
    rcases SP.ws_mem.1 ha with ⟨i, hi, rfl⟩ | ⟨i, g, hi, hg, rfl⟩
    · by_cases hij : i = j
      · subst hij
        obtain ⟨v, hw, _⟩ := h.wk i hj
        rw [(hw.set k (.bool b)).cell 0, hw.cell 0, Array.getElem?_setIfInBounds, if_neg (by omega)]
      · exact World.cell?_of_block (w := w) (Below.heap_setCell w ⟨P.wb j, k, none⟩ _ _ (fun e => hij (hG.inj i j hi hj e)))
    · exact World.cell?_of_block (w := w) (Below.heap_setCell w ⟨P.wb j, k, none⟩ _ _ (fun e => s4 j i g hj hi hg e.symm))
  refine ⟨by rw [el, ek]; exact ⟨h.ar.head.far (p := ⟨P.wb j, k, none⟩) (s2 j hj).1.symm _, h.ar.body.far (p := ⟨P.wb j, k, none⟩) (s2 j hj).2.symm _, h.ar.pos, h.ar.most, h.ar.fit, h.ar.k0⟩, by rw [ek]; exact h.room, by rw [el]; exact h.ok, fun i hi => ?_, fun i g hi hg => ?_, by rw [eh]; exact h.hb, by rw [eh, eg]; exact h.size, fun a b' h1 h2 hab g o n c o' n' c' e => ?_, fun b' hb => by simpa [World.setCell] using h.exl b' hb⟩
  · rw [eh]
    obtain ⟨v, hl, hr⟩ := h.wk i hi
    by_cases hij : i = j
    · subst hij
      refine ⟨v, ?_, own hr⟩
      have := hl.set k (.bool b)
      unfold SSt.mark
      rcases hk with rfl | rfl | rfl
      · simpa [updF_same] using this
      · simpa [updF_same] using this
      · simpa [updF_same] using this
    · refine ⟨v, ?_, own hr⟩
      have := hl.far (p := ⟨P.wb j, k, none⟩) (fun e => hij (hG.inj i j hi hj e)) (.bool b)
      unfold SSt.mark
      split
      · simpa [updF_ne _ _ hij] using this
      · split
        · simpa [updF_ne _ _ hij] using this
        · simpa [updF_ne _ _ hij] using this
  · rw [eg]
    obtain ⟨v, hl, hr⟩ := h.gt i g hi hg
    exact ⟨v, hl.far (p := ⟨P.wb j, k, none⟩) (fun e => s4 j i g hj hi hg e.symm) _, own hr⟩
  · rw [cl a h1] at e
    rw [cl b' h2]
    exact h.apart a b' h1 h2 hab g o n c o' n' c' e

theorem SI.mark_fr (hG : P.Good) (h : SI P r s w) (j : Nat) (hj : j < P.nw) (k : Nat) (hk : k = 2 ∨ k = 3 ∨ k = 4) (b : Bool) : Fr P.L P.ws w (w.setCell ⟨P.wb j, k, none⟩ (.bool b)) := by
  obtain ⟨_, s2, s3, s4⟩ := hG.sep
  have tu := (Turns.refl [P.wb j] w).setCell (p := ⟨P.wb j, k, none⟩) (.inl (by simp)) (.bool b)
  refine ⟨tu.os, tu.tape, tu.output, tu.size, fun b' hb hn _ => tu.block b' hb (by simp; rintro rfl; exact hn (SI.in_L j hj)), fun b' _ hq => hq.same fun a ha => ?_⟩
  rcases SP.ws_mem.1 ha with ⟨i, hi, rfl⟩ | ⟨i, g, hi, hg, rfl⟩
  · by_cases hij : i = j
    · subst hij
      obtain ⟨v, hw, _⟩ := h.wk i hj
      rw [(hw.set k (.bool b)).cell 0, hw.cell 0, Array.getElem?_setIfInBounds, if_neg (by omega)]
    · exact World.cell?_of_block (w := w) (Below.heap_setCell w ⟨P.wb j, k, none⟩ _ _ (fun e => hij (hG.inj i j hi hj e)))
  · exact World.cell?_of_block (w := w) (Below.heap_setCell w ⟨P.wb j, k, none⟩ _ _ (fun e => s4 j i g hj hi hg e.symm))

/-- a row has turned: w1 is w but for the row that the cell a told, and a tells v' behind it. -/
structure RowTurn (P : SP) (w : World) (a : Addr) (v v' : Value) (w1 : World) : Prop where
  grow : w.grownBy w1 v.ownBlock
  was : w.cell? a = some v
  new : ∀ g, v'.ownBlock = some g → v.ownBlock = some g ∨ w.heap.size ≤ g
  mem : a ∈ P.ws

theorem RowTurn.size_le {P : SP} {w w1 : World} {a : Addr} {v v' : Value} (t : RowTurn P w a v v' w1) : w.heap.size ≤ (w1.setCell a v').heap.size := by simpa [World.setCell] using t.grow.size
theorem ownBlock_of {v : Value} {g o n c : Nat} (h : v = .slice (some ⟨g, o, none⟩) n c) : v.ownBlock = some g := by rw [h]; rfl

theorem SI.block_lt (h : SI P r s w) {a : Addr} (ha : a ∈ P.ws) : a.block < w.heap.size := by
  rcases SP.ws_mem.1 ha with ⟨j, hj, rfl⟩ | ⟨j, g, hj, hg, rfl⟩
  · obtain ⟨v, hl, _⟩ := h.wk j hj; exact hl.lt
  · obtain ⟨v, hl, _⟩ := h.gt j g hj hg; exact hl.lt
theorem SI.block_ne (h : SI P r s w) {a : Addr} (ha : a ∈ P.ws) {v : Value} {n : Nat} {xs : List Value} (ho : w.ownsRow P.B 3 1 v n xs) : some a.block ≠ v.ownBlock := fun e => by
  obtain ⟨_, cur, hl⟩ := own_block ho e.symm
  rcases SP.ws_mem.1 ha with ⟨j, hj, rfl⟩ | ⟨j, g, hj, hg, rfl⟩
  · obtain ⟨v, hw, _⟩ := h.wk j hj; exact hl.unlike hw (by decide) rfl
  · obtain ⟨v, hw, _⟩ := h.gt j g hj hg; exact hl.unlike hw (by decide) rfl
theorem SP.ws_block {a b : Addr} (hG : P.Good) (ha : a ∈ P.ws) (hb : b ∈ P.ws) (h : a.block = b.block) : a = b := by
  obtain ⟨_, _, _, s4⟩ := hG.sep
  rcases SP.ws_mem.1 ha with ⟨i, hi, rfl⟩ | ⟨i, g, hi, hg, rfl⟩ <;> rcases SP.ws_mem.1 hb with ⟨j, hj, rfl⟩ | ⟨j, g', hj, hg', rfl⟩
  · rw [hG.inj i j hi hj h]
  · exact absurd h (s4 i j g' hi hj hg')
  · exact absurd h.symm (s4 j i g hj hi hg)
  · have h : g = g' := h
    rw [h]

/-- what a row's turning leaves as it was, and the frame. -/
theorem RowTurn.keeps (hG : P.Good) (h : SI P r s w) {a : Addr} {v v' : Value} {w1 : World} {n : Nat} {xs : List Value} (hv : w.ownsRow P.B 3 1 v n xs) (t : RowTurn P w a v v' w1) :
    (∀ b, b < w.heap.size → some b ≠ v.ownBlock → b ≠ a.block → (w1.setCell a v').heap[b]? = w.heap[b]?) ∧ (∀ b, b ∈ P.ws → b ≠ a → (w1.setCell a v').cell? b = w.cell? b) ∧ (w1.setCell a v').cell? a = some v' ∧ Fr P.L P.ws w (w1.setCell a v') := by
  have k1 : ∀ b, b < w.heap.size → some b ≠ v.ownBlock → b ≠ a.block → (w1.setCell a v').heap[b]? = w.heap[b]? := fun b hb hn ha => (Below.heap_setCell w1 a v' b ha).trans (t.grow.block b hb hn)
  have k2 : ∀ b, b ∈ P.ws → b ≠ a → (w1.setCell a v').cell? b = w.cell? b := fun b hb hba => World.cell?_of_block (w := w) (k1 _ (h.block_lt hb) (h.block_ne hb hv) (fun e => hba (SP.ws_block hG hb t.mem e)))
  have hb1 : w1.heap[a.block]? = w.heap[a.block]? := t.grow.block _ (h.block_lt t.mem) (h.block_ne t.mem hv)
  have c1 : w1.cell? a = some v := (World.cell?_of_block (w := w) hb1).trans t.was
  have k3 : (w1.setCell a v').cell? a = some v' := by
    rcases SP.ws_mem.1 t.mem with ⟨j, hj, rfl⟩ | ⟨j, g, hj, hg, rfl⟩
    · obtain ⟨u, hl, _⟩ := h.wk j hj
      have hl1 : Lies w1 (P.wb j) _ _ := hb1.trans hl
      rw [(hl1.set 0 v').cell 0]
      simp
    · obtain ⟨u, hl, _⟩ := h.gt j g hj hg
      have hl1 : Lies w1 g _ _ := hb1.trans hl
      rw [(hl1.set 0 v').cell 0]
      simp
  refine ⟨k1, k2, k3, ?_⟩
  have inL : a.block ∈ P.L := (sm_ok P hG).cells a t.mem
  refine ⟨t.grow.os, t.grow.tape, t.grow.output, by simpa [World.setCell] using t.grow.size, fun b hb hn hr => k1 b hb (fun e => ?_) (fun e => hn (e ▸ inL)), fun b hb hq => ?_⟩
  · rcases hv.2 with ⟨rfl, _⟩ | ⟨g, cap, cur, rfl, _⟩
    · cases e
    · simp [Value.ownBlock] at e
      subst e
      exact hr ⟨a, t.mem, _, _, _, t.was⟩
  · obtain ⟨x, hx, o, n', c', e⟩ := hq
    by_cases hxa : x = a
    · subst hxa
      rw [k3] at e
      injection e with e
      rcases t.new b (ownBlock_of e) with e2 | e2
      · rcases hv.2 with ⟨rfl, _⟩ | ⟨g, cap, cur, rfl, _⟩
        · cases e2
        · simp [Value.ownBlock] at e2
          subst e2
          exact ⟨x, hx, _, _, _, t.was⟩
      · omega
    · rw [k2 x hx hxa] at e
      exact ⟨x, hx, o, n', c', e⟩
end

end Go.Proofs.Ythkklcmmbpffiaa

/- Layer 8's workers: a row turned is a state again. -/
namespace Go.Proofs.Ythkklcmmbpffiaa
open Go.RowKit
set_option maxRecDepth 100000

section
variable {P : SP} {r : Nat} {s : SSt} {w : World}
theorem SI.own_of (h : SI P r s w) {a : Addr} (ha : a ∈ P.ws) {v : Value} (hc : w.cell? a = some v) : ∃ n xs, w.ownsRow P.B 3 1 v n xs := by
  obtain ⟨v', n, xs, h1, h2⟩ := h.row ha
  rw [hc] at h1
  injection h1 with h1
  subst h1
  exact ⟨n, xs, h2⟩
theorem own_form {w : World} {B : Nat} {v : Value} {n : Nat} {xs : List Value} {g : Nat} (h : w.ownsRow B 3 1 v n xs) (e : v.ownBlock = some g) : ∃ c, v = .slice (some ⟨g, 0, none⟩) n c := by
  rcases h.2 with ⟨rfl, _⟩ | ⟨g', cap, cur, rfl, _⟩
  · cases e
  · simp [Value.ownBlock] at e
    subst e
    exact ⟨_, rfl⟩

/-- other rows, behind a row's turning. -/
theorem RowTurn.others (hG : P.Good) (h : SI P r s w) {a : Addr} {v v' : Value} {w1 : World} (t : RowTurn P w a v v' w1) {b : Addr} (hb : b ∈ P.ws) (hba : b ≠ a) {u : Value} {n : Nat} {xs : List Value} (hc : w.cell? b = some u) (ho : w.ownsRow P.B 3 1 u n xs) :
    (w1.setCell a v').ownsRow P.B 3 1 u n xs := by
  obtain ⟨m, ys, hv⟩ := h.own_of t.mem t.was
  obtain ⟨k1, _, _, _⟩ := t.keeps hG h hv
  refine own_keep ho fun g hg => ?_
  obtain ⟨_, cur, hl⟩ := own_block ho hg
  refine k1 g hl.lt (fun e => ?_) (fun e => ?_)
  · obtain ⟨c1, e1⟩ := own_form ho hg
    obtain ⟨c2, e2⟩ := own_form hv e.symm
    rw [e1] at hc
    have hw := t.was
    rw [e2] at hw
    exact h.apart b a hb t.mem hba g 0 n c1 0 m c2 hc hw
  · subst e
    exact h.block_ne t.mem ho hg.symm

theorem RowTurn.apart (hG : P.Good) (h : SI P r s w) {a : Addr} {v v' : Value} {w1 : World} (t : RowTurn P w a v v' w1) :
    ∀ x b, x ∈ P.ws → b ∈ P.ws → x ≠ b → ∀ g o n c o' n' c', (w1.setCell a v').cell? x = some (.slice (some ⟨g, o, none⟩) n c) → (w1.setCell a v').cell? b ≠ some (.slice (some ⟨g, o', none⟩) n' c') := by
  obtain ⟨m, ys, hv⟩ := h.own_of t.mem t.was
  obtain ⟨_, k2, k3, _⟩ := t.keeps hG h hv
  have key : ∀ b, b ∈ P.ws → b ≠ a → ∀ g o n c o' n' c', v' = .slice (some ⟨g, o, none⟩) n c → w.cell? b ≠ some (.slice (some ⟨g, o', none⟩) n' c') := by
    intro b hb hba g o n c o' n' c' e hc
    rcases t.new g (ownBlock_of e) with e2 | e2
    · obtain ⟨c2, e3⟩ := own_form hv e2
      have hw := t.was
      rw [e3] at hw
      exact h.apart b a hb t.mem hba g _ _ _ _ _ _ hc hw
    · obtain ⟨_, _, ho⟩ := h.own_of hb hc
      obtain ⟨_, cur, hl⟩ := own_lies ho rfl
      have := hl.lt
      omega
  intro x b hx hb hxb g o n c o' n' c' e1 e2
  by_cases hxa : x = a
  · subst hxa
    rw [k3] at e1
    injection e1 with e1
    rw [k2 b hb (fun e => hxb e.symm)] at e2
    exact key b hb (fun e => hxb e.symm) g _ _ _ _ _ _ e1 e2
  · rw [k2 x hx hxa] at e1
    by_cases hba : b = a
    · subst hba
      rw [k3] at e2
      injection e2 with e2
      exact key x hx hxa g _ _ _ _ _ _ e2 e1
    · rw [k2 b hb hba] at e2
      exact h.apart x b hx hb hxb g _ _ _ _ _ _ e1 e2

theorem SI.hset (hG : P.Good) (h : SI P r s w) (j : Nat) (hj : j < P.nw) {v v' : Value} {w1 : World} (t : RowTurn P w ⟨P.wb j, 0, none⟩ v v' w1) {xs : List Int} (ho : w1.ownsRow P.B 3 1 v' xs.length (intVs xs)) (hin : ∀ i, i ∈ xs → 0 ≤ i ∧ i < P.n) (hsz : xs.length + r ≤ 5000) :
    SI P r { s with hs := updF s.hs j xs } (w1.setCell ⟨P.wb j, 0, none⟩ v') := by
  obtain ⟨_, s2, s3, s4⟩ := hG.sep
  obtain ⟨v0, hl, hr⟩ := h.wk j hj
  have hv0 : v0 = v := by
    have h1 : w.cell? ⟨P.wb j, 0, none⟩ = some v0 := hl.cell 0
    have h2 := t.was
    rw [h1] at h2
    injection h2
  subst hv0
  obtain ⟨k1, k2, k3, _⟩ := t.keeps hG h hr
  have not_own : ∀ {b : Nat} {ty : TypeId} {cs : Array Value}, Lies w b ty cs → ty ≠ 3 → some b ≠ v0.ownBlock := fun hb hn e => by
    obtain ⟨_, cur, hc⟩ := own_block hr e.symm
    exact hb.unlike hc hn rfl
  have keep : ∀ {b : Nat} {ty : TypeId} {cs : Array Value}, Lies w b ty cs → ty ≠ 3 → b ≠ P.wb j → Lies (w1.setCell ⟨P.wb j, 0, none⟩ v') b ty cs := fun hb hn hne => (k1 _ hb.lt (not_own hb hn) hne).trans hb
  refine ⟨⟨keep h.ar.head (by decide) (s2 j hj).1.symm, keep h.ar.body (by decide) (s2 j hj).2.symm, h.ar.pos, h.ar.most, h.ar.fit, h.ar.k0⟩, h.room, h.ok, fun i hi => ?_, fun i g hi hg => ?_, fun i hi x hx => ?_, fun i hi => ?_, t.apart hG h, fun b hb => Nat.lt_of_lt_of_le (h.exl b hb) (t.size_le)⟩
  · by_cases hij : i = j
    · subst hij
      have hl1 : Lies w1 (P.wb i) 34 _ := (t.grow.block _ hl.lt (not_own hl (by decide))).trans hl
      refine ⟨v', ?_, ?_⟩
      · have := hl1.set 0 v'
        simpa using this
      · show World.ownsRow _ _ _ _ _ (updF s.hs i xs i).length (intVs (updF s.hs i xs i))
        rw [updF_same]
        refine own_keep ho fun g hg => ?_
        obtain ⟨_, cur, hc⟩ := own_block ho hg
        exact Below.heap_setCell w1 ⟨P.wb i, 0, none⟩ v' g (hc.unlike hl1 (by decide))
    · obtain ⟨u, hlu, hru⟩ := h.wk i hi
      refine ⟨u, keep hlu (by decide) (fun e => hij (hG.inj i j hi hj e)), ?_⟩
      show World.ownsRow _ _ _ _ _ (updF s.hs j xs i).length (intVs (updF s.hs j xs i))
      rw [updF_ne _ _ hij]
      refine t.others hG h (SI.in_ws i hi) (fun e => ?_) (hlu.cell 0) hru
      have e : P.wb i = P.wb j := congrArg Addr.block e
      exact hij (hG.inj i j hi hj e)
  · obtain ⟨u, hlu, hru⟩ := h.gt i g hi hg
    refine ⟨u, keep hlu (by decide) (fun e => s4 j i g hj hi hg e.symm), ?_⟩
    refine t.others hG h (SP.ws_mem.2 (.inr ⟨i, g, hi, hg, rfl⟩)) (fun e => ?_) (hlu.cell 0) hru
    have e : g = P.wb j := congrArg Addr.block e
    exact s4 j i g hj hi hg e.symm
  · have hx : x ∈ updF s.hs j xs i := hx
    unfold updF at hx
    split at hx
    · exact hin x hx
    · exact h.hb i hi x hx
  · refine ⟨?_, (h.size i hi).2⟩
    show (updF s.hs j xs i).length + r ≤ 5000
    unfold updF
    split
    · exact hsz
    · exact (h.size i hi).1

theorem SI.gset (hG : P.Good) (h : SI P r s w) (j g : Nat) (hj : j < P.nw) (hg : P.gp j = some g) {v v' : Value} {w1 : World} (t : RowTurn P w ⟨g, 0, none⟩ v v' w1) {xs : List Int} (ho : w1.ownsRow P.B 3 1 v' xs.length (intVs xs)) (hsz : xs.length + r ≤ 5000) :
    SI P r { s with gt := updF s.gt j xs } (w1.setCell ⟨g, 0, none⟩ v') := by
  obtain ⟨_, s2, s3, s4⟩ := hG.sep
  obtain ⟨v0, hl, hr⟩ := h.gt j g hj hg
  have hv0 : v0 = v := by
    have h1 : w.cell? ⟨g, 0, none⟩ = some v0 := hl.cell 0
    have h2 := t.was
    rw [h1] at h2
    injection h2
  subst hv0
  obtain ⟨k1, k2, k3, _⟩ := t.keeps hG h hr
  have not_own : ∀ {b : Nat} {ty : TypeId} {cs : Array Value}, Lies w b ty cs → ty ≠ 3 → some b ≠ v0.ownBlock := fun hb hn e => by
    obtain ⟨_, cur, hc⟩ := own_block hr e.symm
    exact hb.unlike hc hn rfl
  have keep : ∀ {b : Nat} {ty : TypeId} {cs : Array Value}, Lies w b ty cs → ty ≠ 3 → b ≠ g → Lies (w1.setCell ⟨g, 0, none⟩ v') b ty cs := fun hb hn hne => (k1 _ hb.lt (not_own hb hn) hne).trans hb
  refine ⟨⟨keep h.ar.head (by decide) (s3 j g hj hg).1.symm, keep h.ar.body (by decide) (s3 j g hj hg).2.symm, h.ar.pos, h.ar.most, h.ar.fit, h.ar.k0⟩, h.room, h.ok, fun i hi => ?_, fun i g' hi hg' => ?_, h.hb, fun i hi => ?_, t.apart hG h, fun b hb => Nat.lt_of_lt_of_le (h.exl b hb) (t.size_le)⟩
  · obtain ⟨u, hlu, hru⟩ := h.wk i hi
    refine ⟨u, keep hlu (by decide) (s4 i j g hi hj hg), ?_⟩
    refine t.others hG h (SI.in_ws i hi) (fun e => ?_) (hlu.cell 0) hru
    have e : P.wb i = g := congrArg Addr.block e
    exact s4 i j g hi hj hg e
  · by_cases hij : i = j
    · subst hij
      rw [hg] at hg'
      injection hg' with hg'
      subst hg'
      have hl1 : Lies w1 g 31 _ := (t.grow.block _ hl.lt (not_own hl (by decide))).trans hl
      refine ⟨v', ?_, ?_⟩
      · have := hl1.set 0 v'
        simpa using this
      · show World.ownsRow _ _ _ _ _ (updF s.gt i xs i).length (intVs (updF s.gt i xs i))
        rw [updF_same]
        refine own_keep ho fun b hb => ?_
        obtain ⟨_, cur, hc⟩ := own_block ho hb
        exact Below.heap_setCell w1 ⟨g, 0, none⟩ v' b (hc.unlike hl1 (by decide))
    · have hne : g' ≠ g := fun e => hij (hG.ginj i j g hi hj (e ▸ hg') hg)
      obtain ⟨u, hlu, hru⟩ := h.gt i g' hi hg'
      refine ⟨u, keep hlu (by decide) hne, ?_⟩
      show World.ownsRow _ _ _ _ _ (updF s.gt j xs i).length (intVs (updF s.gt j xs i))
      rw [updF_ne _ _ hij]
      refine t.others hG h (SP.ws_mem.2 (.inr ⟨i, g', hi, hg', rfl⟩)) (fun e => ?_) (hlu.cell 0) hru
      exact hne (congrArg Addr.block e)
  · refine ⟨(h.size i hi).1, ?_⟩
    show (updF s.gt j xs i).length + r ≤ 5000
    unfold updF
    split
    · exact hsz
    · exact (h.size i hi).2
end

end Go.Proofs.Ythkklcmmbpffiaa

/- Layer 8's code of acts: what its closures do. -/
namespace Go.Proofs.Ythkklcmmbpffiaa
open Go.RowKit
set_option maxRecDepth 100000

theorem ent_code1 : Ent 40 := ent_of Try.func40 (by kernel_rfl) (by kernel_rfl)
theorem ent_code2 : Ent 42 := ent_of Try.func42 (by kernel_rfl) (by kernel_rfl)

/-- the law's stack. -/
abbrev stV (P : SP) : Value := chV P.p 0 38 #[]
abbrev stC (P : SP) : Array Value := chC P.p 0 38 #[]

/-- code() of so many acts tells code that does them. -/
def CodeS (P : SP) (n : Nat) (l : List Bool) : Prop := ∀ (j : Nat) (A : Option Addr) (cp : Nat) (w : World) (r : Nat) (s : SSt), j < P.nw → BL P w A l → l.length ≤ cp → SI P r s w →
  (SM P).Then 15 #[stV P, .slice A l.length cp, ptr (P.wb j)] w fun v w' => SI P r (startS j l s).2 w' ∧ (SM P).Code n (startS j l s).1 v w'

section
variable {P : SP} {m bw bs bl j : Nat} {w : World} {A : Option Addr} {cp : Nat} {b : Bool} {l : List Bool}

theorem code2_g (hG : P.Good) (hj : j < P.nw) (x0 : (SM P).Bx w bw 30 #[ptr (P.wb j)]) (x1 : (SM P).Bx w bs 27 (stC P)) (x2 : (SM P).Bx w bl 22 #[.slice A (l.length + 1) cp]) (hB : BL P w A (b :: l)) (hcp : l.length + 1 ≤ cp)
    (ih : ∀ n, n < m → CodeS P n l) :
    (SM P).Cont m 42 #[ptr bw, ptr bs, ptr bl] w (fun (_ : Unit) s => s.hs j ≠ []) (fun _ => #[]) (fun _ s => startS j l (s.pushed j)) := by
  intro n hn x w' s r hm hJ hne
  have hM := sm_ok P hG
  have x0 := x0.mv hm
  have x1 := x1.mv hm
  have x2 := x2.mv hm
  have hB := (hB.mv hm).tail (cp := cp) hcp
  have hi : SI P r s w' := hJ.1
  obtain ⟨v, hl, ho⟩ := hi.wk j hj
  obtain ⟨q, hq⟩ : ∃ q, (s.hs j).length = q + 1 := ⟨(s.hs j).length - 1, by have := List.length_pos_iff.2 hne; omega⟩
  obtain ⟨g, c, rfl, hBg, hglt⟩ := ho.form (by omega)
  rw [hq] at hl
  have c0 := x0.cell
  have d0 : w'.cell? ⟨P.wb j, 0, none⟩ = some (.slice (some ⟨g, 0, none⟩) (q + 1) c) := hl.cell 0
  have f0 := hl.frozen 0
  have hc : q ≤ c := by
    rcases ho.2 with ⟨h0, _⟩ | ⟨g', cap, cur, hv, _, _, hnc, _⟩
    · cases h0
    · rw [hq] at hv hnc
      injection hv with _ _ hv
      omega
  have hmx : q < 100000 := by have := (hi.size j hj).1; omega
  have hsl := slice_head1 (t := 31) (e := 3) Try.underlying31 (by kernel_rfl) (some ⟨g, 0, none⟩) (q + 1) c q hc
  rw [headO_some] at hsl
  have hwq : IntKind.i64.wrap (q : Int) = q := by rw [IntKind.wrap_i64]; omega
  -- the state behind
  have hdl : (s.hs j).dropLast.length = q := by rw [List.length_dropLast, hq]; rfl
  have tud : Turns [] w' w'.drew := (Turns.refl [] _).drew
  have hi := SI.tasks (Mv.of_turns tud (by simp) (fun x hx => by cases hx)) hi
  have ho : w'.drew.ownsRow P.B 3 1 (.slice (some ⟨g, 0, none⟩) (q + 1) c) (q + 1) (intVs (s.hs j)) := by rw [hq] at ho; exact ho
  have ho2 : w'.drew.ownsRow P.B 3 1 (.slice (some ⟨g, 0, none⟩) q c) q (intVs (s.hs j).dropLast) := by
    have hsp : intVs (s.hs j) = intVs (s.hs j).dropLast ++ intVs [(s.hs j).getLast hne] := by
      unfold intVs
      rw [← List.map_append, List.dropLast_concat_getLast]
    rw [hsp] at ho
    exact ownsRow_pop (size := 1) (by simp [intVs, hq]) ho
  have T : RowTurn P w'.drew ⟨P.wb j, 0, none⟩ (.slice (some ⟨g, 0, none⟩) (q + 1) c) (.slice (some ⟨g, 0, none⟩) q c) w'.drew := ⟨⟨rfl, rfl, rfl, Nat.le_refl _, fun _ _ _ => rfl⟩, d0, fun g' hg' => .inl hg', SI.in_ws j hj⟩
  have hI3 : SI P r (s.pushed j) (w'.drew.setCell ⟨P.wb j, 0, none⟩ (.slice (some ⟨g, 0, none⟩) q c)) := hi.hset hG j hj T (xs := (s.hs j).dropLast) (by rw [hdl]; exact ho2) (fun i h => hi.hb j hj i (by rw [List.dropLast_eq_take] at h; exact List.mem_of_mem_take h)) (by have := (hi.size j hj).1; omega)
  have hF3 : Fr P.L P.ws w' (w'.drew.setCell ⟨P.wb j, 0, none⟩ (.slice (some ⟨g, 0, none⟩) q c)) := ((hM.okj hJ).fr hM tud).trans (T.keeps hG hi ho).2.2.2
  have hm3 : Mv P.B (P.L ++ P.ex) P.ws w' (w'.drew.setCell ⟨P.wb j, 0, none⟩ (.slice (some ⟨g, 0, none⟩) q c)) := hF3.mv
  have hB3 := hB.mv hm3
  have y0 := (x0.mv hm3)
  have y1 := (x1.mv hm3)
  have y2 := (x2.mv hm3)
  clear T ho2 hdl ho hi hJ hB x0 x1 x2 hl tud hm3
  show (SM P).Then _ #[ptr bw, ptr bs, ptr bl] w' (fun v w'' => SI P r (startS j l (s.pushed j)).2 w'' ∧ (SM P).Code n (startS j l (s.pushed j)).1 v w'')
  have ht := fun W k1 k2 => ih n hn j (tailO A cp) (cp - 1) W r (s.pushed j) hj k1 (by omega) k2
  generalize startS j l (s.pushed j) = R at *
  unfold Gm.Then at *
  go_enter Try.func42, Try.ntmps42
  go_wp2_with fail
  go_still_tail 14, (by kernel_rfl)
  change wpList _ _ _ _ _ w'.drew
  have d0 : w'.drew.cell? ⟨P.wb j, 0, none⟩ = some (.slice (some ⟨g, 0, none⟩) (q + 1) c) := d0
  have f0 : w'.drew.frozen? ⟨P.wb j, 0, none⟩ = false := f0
  generalize w'.drew = w1 at *
  go_upto_region 2 with (fail)
  generalize w1.setCell ⟨P.wb j, 0, none⟩ (.slice (some ⟨g, 0, none⟩) q c) = W3 at *
  have hsl := slice_tail1 (t := 22) (e := 4) Try.underlying22 (by kernel_rfl) A (l.length + 1) cp (by omega)
  rw [Nat.add_sub_cancel] at hsl
  have e0 := y0.cell
  have e2 := y2.cell
  obtain ⟨c0, c1, c2⟩ : W3.cell? ⟨bs, 0, none⟩ = some (ptr P.p) ∧ W3.cell? ⟨bs, 1, none⟩ = some (.int .i64 0) ∧ W3.cell? ⟨bs, 2, none⟩ = some (.func (.func 38) #[] #[]) := ⟨y1.l.cell 0, y1.l.cell 1, y1.l.cell 2⟩
  have tu3 : Turns [] W3 W3.drew := (Turns.refl [] _).drew
  have okw3 := hM.okw _ _ _ hI3
  have hI4 := SI.tasks (Mv.of_turns tu3 (by simp) (fun x hx => by cases hx)) hI3
  have ht := ht _ (hB3.mv (okw3.mv hM tu3)) hI4
  have hF4 := hF3.trans (okw3.fr hM tu3)
  have oo := (fun (b : Nat) (t : TypeId) (cs : Array Value) (y : (SM P).Bx W3 b t cs) (W : World) (f : Fr P.L P.ws W3.drew W) => (f.lies (y.l.drew) y.out y.row))
  clear hI3 hF3 hB3 d0 f0
  go_wp2_with fail
  go_region_held3 (fun W' => W'.cell? ⟨bs, 0, none⟩ = some (ptr P.p) ∧ W'.cell? ⟨bs, 1, none⟩ = some (.int .i64 0) ∧ W'.cell? ⟨bs, 2, none⟩ = some (.func (.func 38) #[] #[]) ∧ W'.cell? ⟨bl, 0, none⟩ = some (.slice A (l.length + 1) cp) ∧ W'.cell? ⟨bw, 0, none⟩ = some (ptr (P.wb j)))
    (first | exact ⟨c0, c1, c2, e2, e0⟩ | exact ⟨u0, u1, u2, u3, u4⟩)
    (first
      | (go_at_call 15
         refine ht.mono ?_
         rintro e w5 ⟨v, rfl, hq5, t5⟩
         have o1 := oo _ _ _ y1 _ t5
         have u0 : w5.cell? ⟨bs, 0, none⟩ = some (ptr P.p) := o1.cell 0
         have u1 : w5.cell? ⟨bs, 1, none⟩ = some (.int .i64 0) := o1.cell 1
         have u2 : w5.cell? ⟨bs, 2, none⟩ = some (.func (.func 38) #[] #[]) := o1.cell 2
         have u3 : w5.cell? ⟨bl, 0, none⟩ = some (.slice A (l.length + 1) cp) := (oo _ _ _ y2 _ t5).cell 0
         have u4 : w5.cell? ⟨bw, 0, none⟩ = some (ptr (P.wb j)) := (oo _ _ _ y0 _ t5).cell 0))
  go_wp2
  go_ret
  exact ⟨v, rfl, hq5, hF4.trans t5⟩
end

end Go.Proofs.Ythkklcmmbpffiaa

/- Layer 8's workers: a row grown; the closure behind a Pop. -/
namespace Go.Proofs.Ythkklcmmbpffiaa
open Go.RowKit
set_option maxRecDepth 100000

theorem int_info8 : (Try.prog.info? 3).map (fun i => (i.zero, i.size, i.bytes)) = some (some (.int .i64 0), 1, 8) := by kernel_rfl
theorem intVs_snoc (xs : List Int) (i : Int) : intVs (xs ++ [i]) = intVs xs ++ [.int .i64 i] := by simp [intVs]

section
variable {P : SP} {r : Nat} {s : SSt} {W w1 : World}
theorem SI.app_h (hG : P.Good) (h : SI P r s W) (j : Nat) (hj : j < P.nw) {v : Value} (hc : W.cell? ⟨P.wb j, 0, none⟩ = some v) {g cap H : Nat} {i : Int}
    (ho : w1.ownsRow P.B 3 1 (.slice (some ⟨g, 0, none⟩) ((s.hs j).length + 1) cap) ((s.hs j).length + 1) (intVs (s.hs j) ++ [.int .i64 i])) (hg : W.grownBy w1 v.ownBlock) (hat : v.ownBlock = some g ∨ g = H) (hH : W.heap.size ≤ H)
    (hi : 0 ≤ i ∧ i < P.n) (hsz : (s.hs j).length + r + 1 ≤ 5000) :
    SI P r { s with hs := updF s.hs j (s.hs j ++ [i]) } (w1.setCell ⟨P.wb j, 0, none⟩ (.slice (some ⟨g, 0, none⟩) ((s.hs j).length + 1) cap)) ∧ Fr P.L P.ws W (w1.setCell ⟨P.wb j, 0, none⟩ (.slice (some ⟨g, 0, none⟩) ((s.hs j).length + 1) cap)) := by
  have T : RowTurn P W ⟨P.wb j, 0, none⟩ v (.slice (some ⟨g, 0, none⟩) ((s.hs j).length + 1) cap) w1 := ⟨hg, hc, fun g' hg' => by
    simp [Value.ownBlock] at hg'
    subst hg'
    rcases hat with h1 | h1
    · exact .inl h1
    · exact .inr (by omega), SI.in_ws j hj⟩
  obtain ⟨n, xs, hv⟩ := h.own_of (SI.in_ws j hj) hc
  refine ⟨h.hset hG j hj T (xs := s.hs j ++ [i]) (by rw [List.length_append, intVs_snoc]; exact ho) (fun y hy => ?_) (by rw [List.length_append]; simp; omega), (T.keeps hG h hv).2.2.2⟩
  rcases List.mem_append.1 hy with hy | hy
  · exact h.hb j hj y hy
  · rw [List.mem_singleton] at hy; subst hy; exact hi
theorem SI.app_g (hG : P.Good) (h : SI P r s W) (j gb : Nat) (hj : j < P.nw) (hgb : P.gp j = some gb) {v : Value} (hc : W.cell? ⟨gb, 0, none⟩ = some v) {g cap H : Nat} {i : Int}
    (ho : w1.ownsRow P.B 3 1 (.slice (some ⟨g, 0, none⟩) ((s.gt j).length + 1) cap) ((s.gt j).length + 1) (intVs (s.gt j) ++ [.int .i64 i])) (hg : W.grownBy w1 v.ownBlock) (hat : v.ownBlock = some g ∨ g = H) (hH : W.heap.size ≤ H)
    (hsz : (s.gt j).length + r + 1 ≤ 5000) :
    SI P r { s with gt := updF s.gt j (s.gt j ++ [i]) } (w1.setCell ⟨gb, 0, none⟩ (.slice (some ⟨g, 0, none⟩) ((s.gt j).length + 1) cap)) ∧ Fr P.L P.ws W (w1.setCell ⟨gb, 0, none⟩ (.slice (some ⟨g, 0, none⟩) ((s.gt j).length + 1) cap)) := by
  have hin : (⟨gb, 0, none⟩ : Addr) ∈ P.ws := SP.ws_mem.2 (.inr ⟨j, gb, hj, hgb, rfl⟩)
  have T : RowTurn P W ⟨gb, 0, none⟩ v (.slice (some ⟨g, 0, none⟩) ((s.gt j).length + 1) cap) w1 := ⟨hg, hc, fun g' hg' => by
    simp [Value.ownBlock] at hg'
    subst hg'
    rcases hat with h1 | h1
    · exact .inl h1
    · exact .inr (by omega), hin⟩
  obtain ⟨n, xs, hv⟩ := h.own_of hin hc
  exact ⟨h.gset hG j gb hj hgb T (xs := s.gt j ++ [i]) (by rw [List.length_append, intVs_snoc]; exact ho) (by rw [List.length_append]; simp; omega), (T.keeps hG h hv).2.2.2⟩
end

section
variable {P : SP} {m bw bs bl j : Nat} {w : World} {A : Option Addr} {cp : Nat} {b : Bool} {l : List Bool}

theorem own_ne {w : World} {B n b : Nat} {v : Value} {xs : List Value} {t : TypeId} {ds : Array Value} (h : w.ownsRow B 3 1 v n xs) (l : Lies w b t ds) (ht : t ≠ 3) : some b ≠ v.ownBlock := fun e => by
  obtain ⟨_, cur, hc⟩ := own_block h e.symm
  exact l.unlike hc ht rfl

/-- the state behind an answer, piece by piece. -/
def SSt.told (s : SSt) (j : Nat) (nb : Bool) : SSt := (s.mark j 4 nb).mark j 2 false
def SSt.gota (s : SSt) (g : Bool) (j : Nat) (i : Int) : SSt := if g = true then { s with gt := updF s.gt j (s.gt j ++ [i]) } else s
def SSt.handa (s : SSt) (j : Nat) (i : Int) (ok : Bool) : SSt := if ok = true then { s with hs := updF s.hs j (s.hs j ++ [i]) } else s
theorem SSt.popped_eq (s : SSt) (g : Bool) (j : Nat) (i : Int) (ok : Bool) : s.popped g j i ok = ((s.told j (s.wr j || (!ok && !s.ba j) || (ok != decide (0 ≤ i)))).gota g j i).handa j i ok := by
  cases g <;> cases ok <;> rfl

set_option maxHeartbeats 1000000 in
theorem code1_g (hG : P.Good) (hj : j < P.nw) (x0 : (SM P).Bx w bw 30 #[ptr (P.wb j)]) (x1 : (SM P).Bx w bs 27 (stC P)) (x2 : (SM P).Bx w bl 22 #[.slice A (l.length + 1) cp]) (hB : BL P w A (b :: l)) (hcp : l.length + 1 ≤ cp)
    (ih : ∀ n, n < m → CodeS P n l) :
    (SM P).Cont m 40 #[ptr bw, ptr bs, ptr bl] w (fun (x : Int × Bool) (_ : SSt) => PopD (fun o => hIx o < P.n) x ∧ True) (fun x => #[.int .i64 x.1, .bool x.2]) (fun x s => startS j l (s.popped (P.has j) j x.1 x.2)) := by
  intro n hn x w' s r hm hJ hd
  obtain ⟨i, ok⟩ := x
  have hM := sm_ok P hG
  have x0 := x0.mv hm
  have x1 := x1.mv hm
  have x2 := x2.mv hm
  have hB := (hB.mv hm).tail (cp := cp) hcp
  have hi : SI P r s w' := hJ.1
  have hsz := hJ.2 j hj
  have hok : (ok = true → 0 ≤ i ∧ i < P.n) ∧ (ok = false → i = -1) := by
    refine ⟨fun e => ?_, fun e => hd.1.2 e⟩
    obtain ⟨o, _, h1, h2, h3⟩ := hd.1.1 e
    have := hIx_ix h2
    unfold Ix at this
    have e1 : i = hIx o := h3
    have h1 : hIx o < P.n := h1
    omega
  have hmx : (-1 : Int) ≤ i ∧ i < 100000 := by
    have := hG.few
    cases ok with
    | true => have := hok.1 rfl; omega
    | false => have := hok.2 rfl; omega
  obtain ⟨nb, hnb⟩ : ∃ nb, (s.wr j || (!ok && !s.ba j) || (ok != decide (0 ≤ i))) = nb := ⟨_, rfl⟩
  have tud : Turns [] w' w'.drew := (Turns.refl [] _).drew
  have hi1 := SI.tasks (Mv.of_turns tud (by simp) (fun x hx => by cases hx)) hi
  have hi2 := hi1.mark hG j hj 4 (.inr (.inr rfl)) nb
  have hi3 := hi2.mark hG j hj 2 (.inl rfl) false
  have f3 : Fr P.L P.ws w' ((w'.drew.setCell ⟨P.wb j, 4, none⟩ (.bool nb)).setCell ⟨P.wb j, 2, none⟩ (.bool false)) := (((hM.okj hJ).fr hM tud).trans (hi1.mark_fr hG j hj 4 (.inr (.inr rfl)) nb)).trans (hi2.mark_fr hG j hj 2 (.inl rfl) false)
  obtain ⟨v, hl, _⟩ := hi1.wk j hj
  obtain ⟨v2, hl2, _⟩ := hi2.wk j hj
  have c0 := x0.cell
  have d3 : w'.drew.cell? ⟨P.wb j, 3, none⟩ = some (.bool (s.ba j)) := hl.cell 3
  have d4 : w'.drew.cell? ⟨P.wb j, 4, none⟩ = some (.bool (s.wr j)) := hl.cell 4
  have f4 : w'.drew.frozen? ⟨P.wb j, 4, none⟩ = false := hl.frozen 4
  have m2 : (w'.drew.setCell ⟨P.wb j, 4, none⟩ (.bool nb)).cell? ⟨P.wb j, 2, none⟩ = some (.bool (s.bu j)) := hl2.cell 2
  have g2 : (w'.drew.setCell ⟨P.wb j, 4, none⟩ (.bool nb)).frozen? ⟨P.wb j, 2, none⟩ = false := hl2.frozen 2
  have k2 : (w'.drew.setCell ⟨P.wb j, 4, none⟩ (.bool nb)).cell? ⟨bw, 0, none⟩ = some (ptr (P.wb j)) := (x0.mv ((((hM.okj hJ).fr hM tud).trans (hi1.mark_fr hG j hj 4 (.inr (.inr rfl)) nb)).mv)).cell
  have zB := hB
  have z0 := x0
  have z1 := x1
  have z2 := x2
  have hB := hB.mv f3.mv
  have y0 := x0.mv f3.mv
  have y1 := x1.mv f3.mv
  have y2 := x2.mv f3.mv
  have hi3 : SI P r (s.told j nb) _ := hi3
  have hz3 : ((s.told j nb).hs j).length + r + 1 ≤ 5000 ∧ ((s.told j nb).gt j).length + r + 1 ≤ 5000 := hsz
  show (SM P).Then _ #[.int .i64 i, .bool ok, ptr bw, ptr bs, ptr bl] w' (fun v w'' => SI P r (startS j l (s.popped (P.has j) j i ok)).2 w'' ∧ (SM P).Code n (startS j l (s.popped (P.has j) j i ok)).1 v w'')
  rw [SSt.popped_eq, hnb]
  generalize hs3 : s.told j nb = s3 at *
  have ht := fun W k1 k2 => ih n hn j (tailO A cp) (cp - 1) W r ((s3.gota (P.has j) j i).handa j i ok) hj k1 (by omega) k2
  generalize startS j l ((s3.gota (P.has j) j i).handa j i ok) = R at *
  clear hl hl2 x0 x1 x2 hi1 hi2 hi hJ hm hs3
  have HN := Lib.hid hnb
  clear hnb
  unfold Gm.Then at *
  go_enter Try.func40, Try.ntmps40
  go_upto_region 1 with (fail)
  go_cut [24] (fun _ wc => wc = w'.drew.setCell ⟨P.wb j, 4, none⟩ (.bool nb))
  case first =>
    clear m2 g2 k2 hi3 f3 y0 y1 y2 hB ht
    have d3 : w'.cell? ⟨P.wb j, 3, none⟩ = some (.bool (s.ba j)) := d3
    have d4 : w'.cell? ⟨P.wb j, 4, none⟩ = some (.bool (s.wr j)) := d4
    have f4 : w'.frozen? ⟨P.wb j, 4, none⟩ = false := f4
    generalize s.wr j = wr at *
    generalize s.ba j = ba at *
    cases ok with
    | true =>
      have hp := hok.1 rfl
      have hp0 : (0 : Int) ≤ i := hp.1
      cases wr with
      | true =>
        go_region
        go_wp2_with fail
        go_meet
        case rel =>
          have hn := HN.out
          simp at hn
          subst hn
          rfl
      | false =>
        go_region
        go_wp2_with fail
        go_meet
        case rel =>
          have hn := HN.out
          simp [hp0] at hn
          subst hn
          rfl
    | false =>
      obtain rfl := hok.2 rfl
      cases wr with
      | true =>
        go_region
        go_wp2_with fail
        go_meet
        case rel =>
          have hn := HN.out
          simp at hn
          subst hn
          rfl
      | false =>
        cases ba with
        | true =>
          go_region
          go_wp2_with fail
          go_meet
          case rel =>
            have hn := HN.out
            simp at hn
            subst hn
            rfl
        | false =>
          go_region
          go_wp2_with fail
          go_meet
          case rel =>
            have hn := HN.out
            simp at hn
            subst hn
            rfl
  case rest =>
    obtain rfl := hcut
    clear c0 d3 d4 f4 tud hd
    have HK := Lib.hid hok
    clear hok
    generalize w'.drew.setCell ⟨P.wb j, 4, none⟩ (.bool nb) = W1 at *
    go_upto_region 3 with (fail)
    generalize W1.setCell ⟨P.wb j, 2, none⟩ (.bool false) = W3 at *
    clear m2 g2 k2
    obtain ⟨v3, hl3, ho3⟩ := hi3.wk j hj
    have e0 := y0.cell
    obtain ⟨og, hog, hgn⟩ : ∃ og : Option Addr, P.gotV j = .pointer og ∧ og = (P.gp j).map (fun g => ⟨g, 0, none⟩) := by
      unfold SP.gotV
      cases P.gp j with
      | none => exact ⟨none, rfl, rfl⟩
      | some g => exact ⟨some ⟨g, 0, none⟩, rfl, rfl⟩
    have q1 : W3.cell? ⟨P.wb j, 1, none⟩ = some (.pointer og) := by have := hl3.cell 1; simp [hog] at this; exact this
    have HG := Lib.hid hgn
    clear hgn hog
    go_upto_if 39 with (fail)
    trace_state
    go_cut [52] (fun _ wc => SI P r (s3.gota (P.has j) j i) wc ∧ Fr P.L P.ws w' wc)
    case first =>
      clear ht
      cases og with
      | none =>
        have e : s3.gota (P.has j) j i = s3 := by
          have h := HG.out
          unfold SSt.gota SP.has
          cases hg : P.gp j with
          | none => rfl
          | some g => rw [hg] at h; cases h
        go_wp2_with fail
        go_meet
        case rel => rw [e]; exact ⟨hi3, f3⟩
      | some a =>
        obtain ⟨gb, hgb, rfl⟩ : ∃ gb, P.gp j = some gb ∧ a = ⟨gb, 0, none⟩ := by
          have h := HG.out
          cases hg : P.gp j with
          | none => rw [hg] at h; cases h
          | some g => rw [hg] at h; injection h with h; exact ⟨g, rfl, h⟩
        have e : s3.gota (P.has j) j i = { s3 with gt := updF s3.gt j (s3.gt j ++ [i]) } := by
          unfold SSt.gota SP.has
          rw [hgb]
          rfl
        obtain ⟨vg, hlg, hog⟩ := hi3.gt j gb hj hgb
        have e1 : W3.cell? ⟨gb, 0, none⟩ = some vg := hlg.cell 0
        have fg : W3.frozen? ⟨gb, 0, none⟩ = false := hlg.frozen 0
        have tuW : Turns [] W3 (W3.alloc (.cells #[.int .i64 i] 3)).drew := ((Turns.refl [] _).alloc _).drew
        have hiW := SI.tasks (Mv.of_turns tuW (by simp) (fun x hx => by cases hx)) hi3
        have frW := (hM.okw _ _ _ hi3).fr hM tuW
        have u0 := (tuW.cell (p := ⟨bw, 0, none⟩) y0.lt (by simp)).trans e0
        have u1 := (tuW.cell (p := ⟨P.wb j, 1, none⟩) hl3.lt (by simp)).trans q1
        have u2 := (tuW.cell (p := ⟨gb, 0, none⟩) hlg.lt (by simp)).trans e1
        have uf : (W3.alloc (.cells #[.int .i64 i] 3)).drew.frozen? ⟨gb, 0, none⟩ = false := (hlg.turn tuW (by simp)).frozen 0
        have lt0 := y0.lt
        have lt1 := hl3.lt
        have lt2 := hlg.lt
        have n0 := own_ne hog y0.l (by decide)
        have n1 := own_ne hog hl3 (by decide)
        have n2 := own_ne hog hlg (by decide)
        have hbase : P.B ≤ W3.heap.size := by have := hG.low.1; have := hi3.ar.head.lt; omega
        have hsg := hz3.2
        have nb0 : gb ≠ bw := fun h => by subst h; exact hlg.unlike y0.l (by decide) rfl
        have nb1 : gb ≠ P.wb j := fun h => by subst h; exact hlg.unlike hl3 (by decide) rfl
        obtain ⟨i0, hi0, hz0, hz1, hz2⟩ := info_parts int_info8
        go_wp2_with fail
        --R4<
        refine wp_region_held_drew (S := fun W' => W'.cell? ⟨bw, 0, none⟩ = some (ptr (P.wb j)) ∧ W'.cell? ⟨P.wb j, 1, none⟩ = some (.pointer (some ⟨gb, 0, none⟩))) (by kernel_rfl) ⟨e0, q1⟩ (fun hHeld => ?_)
        refine wpAnyH_take (i := 0) (oi := { dst := some 40, op := Go.Op.load 30 (Go.Operand.tmp 2), type := 30, pos := "law.go:49", after := #[], guard := none }) (v := ?_) rfl (by kernel_rfl) (by kernel_rfl) (by kernel_rfl) (fun _ _ _ h => h) (Or.inl ⟨by rfl, ?_⟩) hHeld ?_
        rotate_left
        · intro w hSw; obtain ⟨hS0, hS1⟩ := hSw; go_simp; try with_reducible rfl
        rotate_left
        try simp only [Act.put, List.setIfInBounds_toArray, List.set_cons_zero, List.set_cons_succ]
        refine wpAnyH_take (i := 1) (oi := { dst := some 41, op := Go.Op.nilCheck (Go.Operand.tmp 40), type := 0, pos := "law.go:49", after := #[{ on := 0, ground := Go.Ground.data }], guard := none }) (v := ?_) rfl (by kernel_rfl) (by kernel_rfl) (by kernel_rfl) (fun _ _ _ h => h) (Or.inl ⟨by rfl, ?_⟩) hHeld ?_
        rotate_left
        · intro w hSw; obtain ⟨hS0, hS1⟩ := hSw; go_simp; try with_reducible rfl
        rotate_left
        try simp only [Act.put, List.setIfInBounds_toArray, List.set_cons_zero, List.set_cons_succ]
        refine wpAnyH_take (i := 2) (oi := { dst := some 42, op := Go.Op.fieldAddr 34 (Go.Operand.tmp 41) 1, type := 0, pos := "law.go:49", after := #[{ on := 1, ground := Go.Ground.data }], guard := none }) (v := ?_) rfl (by kernel_rfl) (by kernel_rfl) (by kernel_rfl) (fun _ _ _ h => h) (Or.inl ⟨by rfl, ?_⟩) hHeld ?_
        rotate_left
        · intro w hSw; obtain ⟨hS0, hS1⟩ := hSw; go_simp; try with_reducible rfl
        rotate_left
        try simp only [Act.put, List.setIfInBounds_toArray, List.set_cons_zero, List.set_cons_succ]
        refine wpAnyH_take (i := 3) (oi := { dst := some 43, op := Go.Op.load 32 (Go.Operand.tmp 42), type := 32, pos := "law.go:49", after := #[{ on := 2, ground := Go.Ground.data }], guard := none }) (v := ?_) rfl (by kernel_rfl) (by kernel_rfl) (by kernel_rfl) (fun _ _ _ h => h) (Or.inl ⟨by rfl, ?_⟩) hHeld ?_
        rotate_left
        · intro w hSw; obtain ⟨hS0, hS1⟩ := hSw; go_simp; try with_reducible rfl
        rotate_left
        try simp only [Act.put, List.setIfInBounds_toArray, List.set_cons_zero, List.set_cons_succ]
        refine wpAnyH_take (i := 4) (oi := { dst := some 44, op := Go.Op.load 30 (Go.Operand.tmp 2), type := 30, pos := "law.go:49", after := #[], guard := none }) (v := ?_) rfl (by kernel_rfl) (by kernel_rfl) (by kernel_rfl) (fun _ _ _ h => h) (Or.inl ⟨by rfl, ?_⟩) hHeld ?_
        rotate_left
        · intro w hSw; obtain ⟨hS0, hS1⟩ := hSw; go_simp; try with_reducible rfl
        rotate_left
        try simp only [Act.put, List.setIfInBounds_toArray, List.set_cons_zero, List.set_cons_succ]
        refine wpAnyH_take (i := 5) (oi := { dst := some 45, op := Go.Op.nilCheck (Go.Operand.tmp 44), type := 0, pos := "law.go:49", after := #[{ on := 4, ground := Go.Ground.data }], guard := none }) (v := ?_) rfl (by kernel_rfl) (by kernel_rfl) (by kernel_rfl) (fun _ _ _ h => h) (Or.inl ⟨by rfl, ?_⟩) hHeld ?_
        rotate_left
        · intro w hSw; obtain ⟨hS0, hS1⟩ := hSw; go_simp; try with_reducible rfl
        rotate_left
        try simp only [Act.put, List.setIfInBounds_toArray, List.set_cons_zero, List.set_cons_succ]
        refine wpAnyH_take (i := 6) (oi := { dst := some 46, op := Go.Op.fieldAddr 34 (Go.Operand.tmp 45) 1, type := 0, pos := "law.go:49", after := #[{ on := 5, ground := Go.Ground.data }], guard := none }) (v := ?_) rfl (by kernel_rfl) (by kernel_rfl) (by kernel_rfl) (fun _ _ _ h => h) (Or.inl ⟨by rfl, ?_⟩) hHeld ?_
        rotate_left
        · intro w hSw; obtain ⟨hS0, hS1⟩ := hSw; go_simp; try with_reducible rfl
        rotate_left
        try simp only [Act.put, List.setIfInBounds_toArray, List.set_cons_zero, List.set_cons_succ]
        refine wpAnyH_take (i := 7) (oi := { dst := some 47, op := Go.Op.load 32 (Go.Operand.tmp 46), type := 32, pos := "law.go:49", after := #[{ on := 6, ground := Go.Ground.data }], guard := none }) (v := ?_) rfl (by kernel_rfl) (by kernel_rfl) (by kernel_rfl) (fun _ _ _ h => h) (Or.inl ⟨by rfl, ?_⟩) hHeld ?_
        rotate_left
        · intro w hSw; obtain ⟨hS0, hS1⟩ := hSw; go_simp; try with_reducible rfl
        rotate_left
        try simp only [Act.put, List.setIfInBounds_toArray, List.set_cons_zero, List.set_cons_succ]
        refine wpAnyH_take (i := 8) (oi := { dst := some 48, op := Go.Op.nilCheck (Go.Operand.tmp 47), type := 0, pos := "law.go:49", after := #[{ on := 7, ground := Go.Ground.data }], guard := none }) (v := ?_) rfl (by kernel_rfl) (by kernel_rfl) (by kernel_rfl) (fun _ _ _ h => h) (Or.inl ⟨by rfl, ?_⟩) hHeld ?_
        rotate_left
        · intro w hSw; obtain ⟨hS0, hS1⟩ := hSw; go_simp; try with_reducible rfl
        rotate_left
        try simp only [Act.put, List.setIfInBounds_toArray, List.set_cons_zero, List.set_cons_succ]
        refine wpAnyH_take (i := 10) (oi := { dst := some 50, op := Go.Op.move (Go.Operand.tmp 0), type := 3, pos := "law.go:49", after := #[], guard := none }) (v := ?_) rfl (by kernel_rfl) (by kernel_rfl) (by kernel_rfl) (fun _ _ _ h => h) (Or.inl ⟨by rfl, ?_⟩) hHeld ?_
        rotate_left
        · intro w hSw; obtain ⟨hS0, hS1⟩ := hSw; go_simp; try with_reducible rfl
        rotate_left
        try simp only [Act.put, List.setIfInBounds_toArray, List.set_cons_zero, List.set_cons_succ]
        refine wpAnyH_ready (rs := [9, 11]) (by kernel_rfl) (by simp) ?_
        refine AllReadyH.cons (o := { dst := some 49, op := Go.Op.load 31 (Go.Operand.tmp 48), type := 31, pos := "law.go:49", after := #[{ on := 8, ground := Go.Ground.data }], guard := none }) rfl (fun K hK => ?_) (AllReadyH.cons (o := { dst := some 51, op := Go.Op.buildSlice 31 1 #[(0, Go.Operand.tmp 50)], type := 31, pos := "law.go:49", after := #[{ on := 10, ground := Go.Ground.data }], guard := none }) rfl (fun K hK => ?_) AllReadyH.nil)
        · go_simp
          refine hK.out _ _ ⟨e0, q1⟩ (fun hHeld => ?_)
          clear hK K
          try simp only [Act.put, List.setIfInBounds_toArray, List.set_cons_zero, List.set_cons_succ]
          refine wpAnyH_ready (rs := [11]) (by kernel_rfl) (by simp) ?_
          refine AllReadyH.cons (o := { dst := some 51, op := Go.Op.buildSlice 31 1 #[(0, Go.Operand.tmp 50)], type := 31, pos := "law.go:49", after := #[{ on := 10, ground := Go.Ground.data }], guard := none }) rfl (fun K hK => ?_) AllReadyH.nil
          go_simp
          refine hK.out _ _ ⟨u0, u1⟩ (fun hHeld => ?_)
          clear hK K
          try simp only [Act.put, List.setIfInBounds_toArray, List.set_cons_zero, List.set_cons_succ]
          refine wpAnyH_ready (rs := [12]) (by kernel_rfl) (by simp) ?_
          refine AllReadyH.cons (o := { dst := some 52, op := Go.Op.call { callee := Go.Callee.builtin Go.Builtin.append, args := #[Go.Operand.tmp 49, Go.Operand.tmp 51], argTypes := #[31, 31] }, type := 31, pos := "law.go:49", after := #[{ on := 9, ground := Go.Ground.data }, { on := 11, ground := Go.Ground.data }], guard := none }) rfl (fun K hK => ?_) AllReadyH.nil
          refine step_append_lies _ (by rfl) _ _ _ (by rfl) P.B 3 i0 _ 1 8 Try.underlying31 hi0 hz0 hz1 hz2 rfl (by omega) vg (s3.gt j).length (intVs (s3.gt j)) (by rfl) ((hog.alloc _).drew) ⟨W3.heap.size, 0, none⟩ 1 1 [.int .i64 i] (by rfl) (by rfl) (World.news_of_block (cs := #[.int .i64 i]) (t := 3) (fr := (0, 0)) (heap_alloc_new W3 _)) (by simp [Value.oneCell']) (by omega) (by simp only [maxLen]; omega) (by omega) (by simp; omega) (W3.heap.size + 1) (by simp) ?_
          intro gg cap w9 hown1 hgrow hat hlt
          have p0 : w9.cell? ⟨bw, 0, none⟩ = some (ptr (P.wb j)) := (hgrow.cell_far ⟨bw, 0, none⟩ (by simp; omega) n0).trans u0
          have p1 : w9.cell? ⟨P.wb j, 1, none⟩ = some (.pointer (some ⟨gb, 0, none⟩)) := (hgrow.cell_far ⟨P.wb j, 1, none⟩ (by simp; omega) n1).trans u1
          have p2 : w9.cell? ⟨gb, 0, none⟩ = some vg := (hgrow.cell_far ⟨gb, 0, none⟩ (by simp; omega) n2).trans u2
          have pf : w9.frozen? ⟨gb, 0, none⟩ = false := (hgrow.frozen_far ⟨gb, 0, none⟩ (by simp; omega) n2).trans uf
          refine hK.out _ _ ⟨p0, p1⟩ (fun hHeld => ?_)
          clear hK K
          try simp only [Act.put, List.setIfInBounds_toArray, List.set_cons_zero, List.set_cons_succ]
          refine wpAnyH_ready (rs := [13]) (by kernel_rfl) (by simp) ?_
          refine AllReadyH.cons (o := { dst := some 53, op := Go.Op.nilCheck (Go.Operand.tmp 43), type := 0, pos := "law.go:49", after := #[{ on := 3, ground := Go.Ground.data }, { on := 0, ground := Go.Ground.phase }, { on := 1, ground := Go.Ground.phase }, { on := 2, ground := Go.Ground.phase }, { on := 3, ground := Go.Ground.phase }, { on := 4, ground := Go.Ground.phase }, { on := 5, ground := Go.Ground.phase }, { on := 6, ground := Go.Ground.phase }, { on := 7, ground := Go.Ground.phase }, { on := 8, ground := Go.Ground.phase }, { on := 9, ground := Go.Ground.phase }, { on := 10, ground := Go.Ground.phase }, { on := 11, ground := Go.Ground.phase }, { on := 12, ground := Go.Ground.phase }], guard := none }) rfl (fun K hK => ?_) AllReadyH.nil
          go_simp
          refine hK.out _ _ ⟨p0, p1⟩ (fun hHeld => ?_)
          clear hK K
          try simp only [Act.put, List.setIfInBounds_toArray, List.set_cons_zero, List.set_cons_succ]
          refine wpAnyH_ready (rs := [14]) (by kernel_rfl) (by simp) ?_
          refine AllReadyH.cons (o := { dst := none, op := Go.Op.store 31 (Go.Operand.tmp 53) (Go.Operand.tmp 52), type := 0, pos := "law.go:49", after := #[{ on := 13, ground := Go.Ground.data }, { on := 12, ground := Go.Ground.data }, { on := 12, ground := Go.Ground.chain }, { on := 0, ground := Go.Ground.phase }, { on := 1, ground := Go.Ground.phase }, { on := 2, ground := Go.Ground.phase }, { on := 3, ground := Go.Ground.phase }, { on := 4, ground := Go.Ground.phase }, { on := 5, ground := Go.Ground.phase }, { on := 6, ground := Go.Ground.phase }, { on := 7, ground := Go.Ground.phase }, { on := 8, ground := Go.Ground.phase }, { on := 9, ground := Go.Ground.phase }, { on := 10, ground := Go.Ground.phase }, { on := 11, ground := Go.Ground.phase }, { on := 12, ground := Go.Ground.phase }], guard := none }) rfl (fun K hK => ?_) AllReadyH.nil
          go_simp
          refine hK.out _ _ ⟨(World.cell?_setCell_far _ _ _ _ nb0).trans p0, (World.cell?_setCell_far _ _ _ _ nb1).trans p1⟩ (fun hHeld => ?_)
          clear hK K
          try simp only [Act.put, List.setIfInBounds_toArray, List.set_cons_zero, List.set_cons_succ]
          refine wpAnyH_done (by kernel_rfl) ?_ _
          obtain ⟨a1, a2⟩ := hiW.app_g hG j gb hj hgb u2 hown1 hgrow hat (by simp) hsg
          go_wp2_with fail
          go_meet
          case rel => rw [e]; exact ⟨a1, (f3.trans frW).trans a2⟩
        · go_simp
          refine hK.out _ _ ⟨u0, u1⟩ (fun hHeld => ?_)
          clear hK K
          try simp only [Act.put, List.setIfInBounds_toArray, List.set_cons_zero, List.set_cons_succ]
          refine wpAnyH_ready (rs := [9]) (by kernel_rfl) (by simp) ?_
          refine AllReadyH.cons (o := { dst := some 49, op := Go.Op.load 31 (Go.Operand.tmp 48), type := 31, pos := "law.go:49", after := #[{ on := 8, ground := Go.Ground.data }], guard := none }) rfl (fun K hK => ?_) AllReadyH.nil
          go_simp
          refine hK.out _ _ ⟨u0, u1⟩ (fun hHeld => ?_)
          clear hK K
          try simp only [Act.put, List.setIfInBounds_toArray, List.set_cons_zero, List.set_cons_succ]
          refine wpAnyH_ready (rs := [12]) (by kernel_rfl) (by simp) ?_
          refine AllReadyH.cons (o := { dst := some 52, op := Go.Op.call { callee := Go.Callee.builtin Go.Builtin.append, args := #[Go.Operand.tmp 49, Go.Operand.tmp 51], argTypes := #[31, 31] }, type := 31, pos := "law.go:49", after := #[{ on := 9, ground := Go.Ground.data }, { on := 11, ground := Go.Ground.data }], guard := none }) rfl (fun K hK => ?_) AllReadyH.nil
          refine step_append_lies _ (by rfl) _ _ _ (by rfl) P.B 3 i0 _ 1 8 Try.underlying31 hi0 hz0 hz1 hz2 rfl (by omega) vg (s3.gt j).length (intVs (s3.gt j)) (by rfl) ((hog.alloc _).drew) ⟨W3.heap.size, 0, none⟩ 1 1 [.int .i64 i] (by rfl) (by rfl) (World.news_of_block (cs := #[.int .i64 i]) (t := 3) (fr := (0, 0)) (heap_alloc_new W3 _)) (by simp [Value.oneCell']) (by omega) (by simp only [maxLen]; omega) (by omega) (by simp; omega) (W3.heap.size + 1) (by simp) ?_
          intro gg cap w9 hown1 hgrow hat hlt
          have p0 : w9.cell? ⟨bw, 0, none⟩ = some (ptr (P.wb j)) := (hgrow.cell_far ⟨bw, 0, none⟩ (by simp; omega) n0).trans u0
          have p1 : w9.cell? ⟨P.wb j, 1, none⟩ = some (.pointer (some ⟨gb, 0, none⟩)) := (hgrow.cell_far ⟨P.wb j, 1, none⟩ (by simp; omega) n1).trans u1
          have p2 : w9.cell? ⟨gb, 0, none⟩ = some vg := (hgrow.cell_far ⟨gb, 0, none⟩ (by simp; omega) n2).trans u2
          have pf : w9.frozen? ⟨gb, 0, none⟩ = false := (hgrow.frozen_far ⟨gb, 0, none⟩ (by simp; omega) n2).trans uf
          refine hK.out _ _ ⟨p0, p1⟩ (fun hHeld => ?_)
          clear hK K
          try simp only [Act.put, List.setIfInBounds_toArray, List.set_cons_zero, List.set_cons_succ]
          refine wpAnyH_ready (rs := [13]) (by kernel_rfl) (by simp) ?_
          refine AllReadyH.cons (o := { dst := some 53, op := Go.Op.nilCheck (Go.Operand.tmp 43), type := 0, pos := "law.go:49", after := #[{ on := 3, ground := Go.Ground.data }, { on := 0, ground := Go.Ground.phase }, { on := 1, ground := Go.Ground.phase }, { on := 2, ground := Go.Ground.phase }, { on := 3, ground := Go.Ground.phase }, { on := 4, ground := Go.Ground.phase }, { on := 5, ground := Go.Ground.phase }, { on := 6, ground := Go.Ground.phase }, { on := 7, ground := Go.Ground.phase }, { on := 8, ground := Go.Ground.phase }, { on := 9, ground := Go.Ground.phase }, { on := 10, ground := Go.Ground.phase }, { on := 11, ground := Go.Ground.phase }, { on := 12, ground := Go.Ground.phase }], guard := none }) rfl (fun K hK => ?_) AllReadyH.nil
          go_simp
          refine hK.out _ _ ⟨p0, p1⟩ (fun hHeld => ?_)
          clear hK K
          try simp only [Act.put, List.setIfInBounds_toArray, List.set_cons_zero, List.set_cons_succ]
          refine wpAnyH_ready (rs := [14]) (by kernel_rfl) (by simp) ?_
          refine AllReadyH.cons (o := { dst := none, op := Go.Op.store 31 (Go.Operand.tmp 53) (Go.Operand.tmp 52), type := 0, pos := "law.go:49", after := #[{ on := 13, ground := Go.Ground.data }, { on := 12, ground := Go.Ground.data }, { on := 12, ground := Go.Ground.chain }, { on := 0, ground := Go.Ground.phase }, { on := 1, ground := Go.Ground.phase }, { on := 2, ground := Go.Ground.phase }, { on := 3, ground := Go.Ground.phase }, { on := 4, ground := Go.Ground.phase }, { on := 5, ground := Go.Ground.phase }, { on := 6, ground := Go.Ground.phase }, { on := 7, ground := Go.Ground.phase }, { on := 8, ground := Go.Ground.phase }, { on := 9, ground := Go.Ground.phase }, { on := 10, ground := Go.Ground.phase }, { on := 11, ground := Go.Ground.phase }, { on := 12, ground := Go.Ground.phase }], guard := none }) rfl (fun K hK => ?_) AllReadyH.nil
          go_simp
          refine hK.out _ _ ⟨(World.cell?_setCell_far _ _ _ _ nb0).trans p0, (World.cell?_setCell_far _ _ _ _ nb1).trans p1⟩ (fun hHeld => ?_)
          clear hK K
          try simp only [Act.put, List.setIfInBounds_toArray, List.set_cons_zero, List.set_cons_succ]
          refine wpAnyH_done (by kernel_rfl) ?_ _
          obtain ⟨a1, a2⟩ := hiW.app_g hG j gb hj hgb u2 hown1 hgrow hat (by simp) hsg
          go_wp2_with fail
          go_meet
          case rel => rw [e]; exact ⟨a1, (f3.trans frW).trans a2⟩
        --R4>
    case rest =>
      obtain ⟨hi4, f4⟩ := hcut
      clear hi3 f3 hl3 ho3 e0 q1
      have mv4 : Mv P.B (P.L ++ P.ex) P.ws w' wc := f4.mv
      obtain ⟨y0, y1, y2, hB⟩ : (SM P).Bx wc bw 30 #[ptr (P.wb j)] ∧ (SM P).Bx wc bs 27 (stC P) ∧ (SM P).Bx wc bl 22 #[.slice A (l.length + 1) cp] ∧ BL P wc (tailO A cp) l := ⟨z0.mv mv4, z1.mv mv4, z2.mv mv4, zB.mv mv4⟩
      have hz4 : ((s3.gota (P.has j) j i).hs j).length + r + 1 ≤ 5000 := by
        have h := hz3.1
        unfold SSt.gota
        split <;> exact h
      have f3 := f4
      clear f4 mv4
      generalize s3.gota (P.has j) j i = s4 at *
      generalize wc = W3 at *
      go_upto_if 54 with (fail)
      go_cut [62] (fun _ wc => SI P r (s4.handa j i ok) wc ∧ Fr P.L P.ws w' wc)
      case first =>
        clear ht
        cases ok with
        | false =>
          go_wp2_with fail
          go_meet
          case rel => exact ⟨hi4, f3⟩
        | true =>
          have hpi := HK.out.1 rfl
          obtain ⟨vg, hlg, hog⟩ := hi4.wk j hj
          have e0 := y0.cell
          have e1 : W3.cell? ⟨P.wb j, 0, none⟩ = some vg := hlg.cell 0
          have tuW : Turns [] W3 (W3.alloc (.cells #[.int .i64 i] 3)).drew := ((Turns.refl [] _).alloc _).drew
          have hiW := SI.tasks (Mv.of_turns tuW (by simp) (fun x hx => by cases hx)) hi4
          have frW := (hM.okw _ _ _ hi4).fr hM tuW
          have u0 := (tuW.cell (p := ⟨bw, 0, none⟩) y0.lt (by simp)).trans e0
          have u2 := (tuW.cell (p := ⟨P.wb j, 0, none⟩) hlg.lt (by simp)).trans e1
          have uf : (W3.alloc (.cells #[.int .i64 i] 3)).drew.frozen? ⟨P.wb j, 0, none⟩ = false := (hlg.turn tuW (by simp)).frozen 0
          have lt0 := y0.lt
          have lt2 := hlg.lt
          have n0 := own_ne hog y0.l (by decide)
          have n2 := own_ne hog hlg (by decide)
          have hbase : P.B ≤ W3.heap.size := by have := hG.low.1; have := hi4.ar.head.lt; omega
          have hsg := hz4
          have nb0 : P.wb j ≠ bw := fun h => by rw [h] at hlg; exact hlg.unlike y0.l (by decide) rfl
          obtain ⟨i0, hi0, hz0, hz1, hz2⟩ := info_parts int_info8
          go_wp2_with fail
        --R6<
          refine wp_region_held_drew (S := fun W' => W'.cell? ⟨bw, 0, none⟩ = some (ptr (P.wb j)) ∧ True) (by kernel_rfl) ⟨e0, trivial⟩ (fun hHeld => ?_)
          refine wpAnyH_take (i := 0) (oi := { dst := some 55, op := Go.Op.load 30 (Go.Operand.tmp 2), type := 30, pos := "law.go:52", after := #[], guard := none }) (v := ?_) rfl (by kernel_rfl) (by kernel_rfl) (by kernel_rfl) (fun _ _ _ h => h) (Or.inl ⟨by rfl, ?_⟩) hHeld ?_
          rotate_left
          · intro w hSw; obtain ⟨hS0, hS1⟩ := hSw; go_simp; try with_reducible rfl
          rotate_left
          try simp only [Act.put, List.setIfInBounds_toArray, List.set_cons_zero, List.set_cons_succ]
          refine wpAnyH_take (i := 1) (oi := { dst := some 56, op := Go.Op.load 30 (Go.Operand.tmp 2), type := 30, pos := "law.go:52", after := #[], guard := none }) (v := ?_) rfl (by kernel_rfl) (by kernel_rfl) (by kernel_rfl) (fun _ _ _ h => h) (Or.inl ⟨by rfl, ?_⟩) hHeld ?_
          rotate_left
          · intro w hSw; obtain ⟨hS0, hS1⟩ := hSw; go_simp; try with_reducible rfl
          rotate_left
          try simp only [Act.put, List.setIfInBounds_toArray, List.set_cons_zero, List.set_cons_succ]
          refine wpAnyH_take (i := 2) (oi := { dst := some 57, op := Go.Op.nilCheck (Go.Operand.tmp 56), type := 0, pos := "law.go:52", after := #[{ on := 1, ground := Go.Ground.data }], guard := none }) (v := ?_) rfl (by kernel_rfl) (by kernel_rfl) (by kernel_rfl) (fun _ _ _ h => h) (Or.inl ⟨by rfl, ?_⟩) hHeld ?_
          rotate_left
          · intro w hSw; obtain ⟨hS0, hS1⟩ := hSw; go_simp; try with_reducible rfl
          rotate_left
          try simp only [Act.put, List.setIfInBounds_toArray, List.set_cons_zero, List.set_cons_succ]
          refine wpAnyH_take (i := 3) (oi := { dst := some 58, op := Go.Op.fieldAddr 34 (Go.Operand.tmp 57) 0, type := 0, pos := "law.go:52", after := #[{ on := 2, ground := Go.Ground.data }], guard := none }) (v := ?_) rfl (by kernel_rfl) (by kernel_rfl) (by kernel_rfl) (fun _ _ _ h => h) (Or.inl ⟨by rfl, ?_⟩) hHeld ?_
          rotate_left
          · intro w hSw; obtain ⟨hS0, hS1⟩ := hSw; go_simp; try with_reducible rfl
          rotate_left
          try simp only [Act.put, List.setIfInBounds_toArray, List.set_cons_zero, List.set_cons_succ]
          refine wpAnyH_take (i := 5) (oi := { dst := some 60, op := Go.Op.move (Go.Operand.tmp 0), type := 3, pos := "law.go:52", after := #[], guard := none }) (v := ?_) rfl (by kernel_rfl) (by kernel_rfl) (by kernel_rfl) (fun _ _ _ h => h) (Or.inl ⟨by rfl, ?_⟩) hHeld ?_
          rotate_left
          · intro w hSw; obtain ⟨hS0, hS1⟩ := hSw; go_simp; try with_reducible rfl
          rotate_left
          try simp only [Act.put, List.setIfInBounds_toArray, List.set_cons_zero, List.set_cons_succ]
          refine wpAnyH_ready (rs := [4, 6]) (by kernel_rfl) (by simp) ?_
          refine AllReadyH.cons (o := { dst := some 59, op := Go.Op.load 31 (Go.Operand.tmp 58), type := 31, pos := "law.go:52", after := #[{ on := 3, ground := Go.Ground.data }], guard := none }) rfl (fun K hK => ?_) (AllReadyH.cons (o := { dst := some 61, op := Go.Op.buildSlice 31 1 #[(0, Go.Operand.tmp 60)], type := 31, pos := "law.go:52", after := #[{ on := 5, ground := Go.Ground.data }], guard := none }) rfl (fun K hK => ?_) AllReadyH.nil)
          · go_simp
            refine hK.out _ _ ⟨e0, trivial⟩ (fun hHeld => ?_)
            clear hK K
            try simp only [Act.put, List.setIfInBounds_toArray, List.set_cons_zero, List.set_cons_succ]
            refine wpAnyH_ready (rs := [6]) (by kernel_rfl) (by simp) ?_
            refine AllReadyH.cons (o := { dst := some 61, op := Go.Op.buildSlice 31 1 #[(0, Go.Operand.tmp 60)], type := 31, pos := "law.go:52", after := #[{ on := 5, ground := Go.Ground.data }], guard := none }) rfl (fun K hK => ?_) AllReadyH.nil
            go_simp
            refine hK.out _ _ ⟨u0, trivial⟩ (fun hHeld => ?_)
            clear hK K
            try simp only [Act.put, List.setIfInBounds_toArray, List.set_cons_zero, List.set_cons_succ]
            refine wpAnyH_ready (rs := [7]) (by kernel_rfl) (by simp) ?_
            refine AllReadyH.cons (o := { dst := some 62, op := Go.Op.call { callee := Go.Callee.builtin Go.Builtin.append, args := #[Go.Operand.tmp 59, Go.Operand.tmp 61], argTypes := #[31, 31] }, type := 31, pos := "law.go:52", after := #[{ on := 4, ground := Go.Ground.data }, { on := 6, ground := Go.Ground.data }], guard := none }) rfl (fun K hK => ?_) AllReadyH.nil
            refine step_append_lies _ (by rfl) _ _ _ (by rfl) P.B 3 i0 _ 1 8 Try.underlying31 hi0 hz0 hz1 hz2 rfl (by omega) vg (s4.hs j).length (intVs (s4.hs j)) (by rfl) ((hog.alloc _).drew) ⟨W3.heap.size, 0, none⟩ 1 1 [.int .i64 i] (by rfl) (by rfl) (World.news_of_block (cs := #[.int .i64 i]) (t := 3) (fr := (0, 0)) (heap_alloc_new W3 _)) (by simp [Value.oneCell']) (by omega) (by simp only [maxLen]; omega) (by omega) (by simp; omega) (W3.heap.size + 1) (by simp) ?_
            intro gg cap w9 hown1 hgrow hat hlt
            have p0 : w9.cell? ⟨bw, 0, none⟩ = some (ptr (P.wb j)) := (hgrow.cell_far ⟨bw, 0, none⟩ (by simp; omega) n0).trans u0
            have p2 : w9.cell? ⟨P.wb j, 0, none⟩ = some vg := (hgrow.cell_far ⟨P.wb j, 0, none⟩ (by simp; omega) n2).trans u2
            have pf : w9.frozen? ⟨P.wb j, 0, none⟩ = false := (hgrow.frozen_far ⟨P.wb j, 0, none⟩ (by simp; omega) n2).trans uf
            refine hK.out _ _ ⟨p0, trivial⟩ (fun hHeld => ?_)
            clear hK K
            try simp only [Act.put, List.setIfInBounds_toArray, List.set_cons_zero, List.set_cons_succ]
            refine wpAnyH_ready (rs := [8]) (by kernel_rfl) (by simp) ?_
            refine AllReadyH.cons (o := { dst := some 63, op := Go.Op.nilCheck (Go.Operand.tmp 55), type := 0, pos := "law.go:52", after := #[{ on := 0, ground := Go.Ground.data }, { on := 0, ground := Go.Ground.phase }, { on := 1, ground := Go.Ground.phase }, { on := 2, ground := Go.Ground.phase }, { on := 3, ground := Go.Ground.phase }, { on := 4, ground := Go.Ground.phase }, { on := 5, ground := Go.Ground.phase }, { on := 6, ground := Go.Ground.phase }, { on := 7, ground := Go.Ground.phase }], guard := none }) rfl (fun K hK => ?_) AllReadyH.nil
            go_simp
            refine hK.out _ _ ⟨p0, trivial⟩ (fun hHeld => ?_)
            clear hK K
            try simp only [Act.put, List.setIfInBounds_toArray, List.set_cons_zero, List.set_cons_succ]
            refine wpAnyH_ready (rs := [9]) (by kernel_rfl) (by simp) ?_
            refine AllReadyH.cons (o := { dst := some 64, op := Go.Op.fieldAddr 34 (Go.Operand.tmp 63) 0, type := 0, pos := "law.go:52", after := #[{ on := 8, ground := Go.Ground.data }, { on := 0, ground := Go.Ground.phase }, { on := 1, ground := Go.Ground.phase }, { on := 2, ground := Go.Ground.phase }, { on := 3, ground := Go.Ground.phase }, { on := 4, ground := Go.Ground.phase }, { on := 5, ground := Go.Ground.phase }, { on := 6, ground := Go.Ground.phase }, { on := 7, ground := Go.Ground.phase }], guard := none }) rfl (fun K hK => ?_) AllReadyH.nil
            go_simp
            refine hK.out _ _ ⟨p0, trivial⟩ (fun hHeld => ?_)
            clear hK K
            try simp only [Act.put, List.setIfInBounds_toArray, List.set_cons_zero, List.set_cons_succ]
            refine wpAnyH_ready (rs := [10]) (by kernel_rfl) (by simp) ?_
            refine AllReadyH.cons (o := { dst := none, op := Go.Op.store 31 (Go.Operand.tmp 64) (Go.Operand.tmp 62), type := 0, pos := "law.go:52", after := #[{ on := 9, ground := Go.Ground.data }, { on := 7, ground := Go.Ground.data }, { on := 7, ground := Go.Ground.chain }, { on := 0, ground := Go.Ground.phase }, { on := 1, ground := Go.Ground.phase }, { on := 2, ground := Go.Ground.phase }, { on := 3, ground := Go.Ground.phase }, { on := 4, ground := Go.Ground.phase }, { on := 5, ground := Go.Ground.phase }, { on := 6, ground := Go.Ground.phase }, { on := 7, ground := Go.Ground.phase }], guard := none }) rfl (fun K hK => ?_) AllReadyH.nil
            go_simp
            refine hK.out _ _ ⟨(World.cell?_setCell_far _ _ _ _ nb0).trans p0, trivial⟩ (fun hHeld => ?_)
            clear hK K
            try simp only [Act.put, List.setIfInBounds_toArray, List.set_cons_zero, List.set_cons_succ]
            refine wpAnyH_done (by kernel_rfl) ?_ _
            obtain ⟨a1, a2⟩ := hiW.app_h hG j hj u2 hown1 hgrow hat (by simp) hpi hsg
            go_wp2_with fail
            go_meet
            case rel => exact ⟨a1, (f3.trans frW).trans a2⟩
          · go_simp
            refine hK.out _ _ ⟨u0, trivial⟩ (fun hHeld => ?_)
            clear hK K
            try simp only [Act.put, List.setIfInBounds_toArray, List.set_cons_zero, List.set_cons_succ]
            refine wpAnyH_ready (rs := [4]) (by kernel_rfl) (by simp) ?_
            refine AllReadyH.cons (o := { dst := some 59, op := Go.Op.load 31 (Go.Operand.tmp 58), type := 31, pos := "law.go:52", after := #[{ on := 3, ground := Go.Ground.data }], guard := none }) rfl (fun K hK => ?_) AllReadyH.nil
            go_simp
            refine hK.out _ _ ⟨u0, trivial⟩ (fun hHeld => ?_)
            clear hK K
            try simp only [Act.put, List.setIfInBounds_toArray, List.set_cons_zero, List.set_cons_succ]
            refine wpAnyH_ready (rs := [7]) (by kernel_rfl) (by simp) ?_
            refine AllReadyH.cons (o := { dst := some 62, op := Go.Op.call { callee := Go.Callee.builtin Go.Builtin.append, args := #[Go.Operand.tmp 59, Go.Operand.tmp 61], argTypes := #[31, 31] }, type := 31, pos := "law.go:52", after := #[{ on := 4, ground := Go.Ground.data }, { on := 6, ground := Go.Ground.data }], guard := none }) rfl (fun K hK => ?_) AllReadyH.nil
            refine step_append_lies _ (by rfl) _ _ _ (by rfl) P.B 3 i0 _ 1 8 Try.underlying31 hi0 hz0 hz1 hz2 rfl (by omega) vg (s4.hs j).length (intVs (s4.hs j)) (by rfl) ((hog.alloc _).drew) ⟨W3.heap.size, 0, none⟩ 1 1 [.int .i64 i] (by rfl) (by rfl) (World.news_of_block (cs := #[.int .i64 i]) (t := 3) (fr := (0, 0)) (heap_alloc_new W3 _)) (by simp [Value.oneCell']) (by omega) (by simp only [maxLen]; omega) (by omega) (by simp; omega) (W3.heap.size + 1) (by simp) ?_
            intro gg cap w9 hown1 hgrow hat hlt
            have p0 : w9.cell? ⟨bw, 0, none⟩ = some (ptr (P.wb j)) := (hgrow.cell_far ⟨bw, 0, none⟩ (by simp; omega) n0).trans u0
            have p2 : w9.cell? ⟨P.wb j, 0, none⟩ = some vg := (hgrow.cell_far ⟨P.wb j, 0, none⟩ (by simp; omega) n2).trans u2
            have pf : w9.frozen? ⟨P.wb j, 0, none⟩ = false := (hgrow.frozen_far ⟨P.wb j, 0, none⟩ (by simp; omega) n2).trans uf
            refine hK.out _ _ ⟨p0, trivial⟩ (fun hHeld => ?_)
            clear hK K
            try simp only [Act.put, List.setIfInBounds_toArray, List.set_cons_zero, List.set_cons_succ]
            refine wpAnyH_ready (rs := [8]) (by kernel_rfl) (by simp) ?_
            refine AllReadyH.cons (o := { dst := some 63, op := Go.Op.nilCheck (Go.Operand.tmp 55), type := 0, pos := "law.go:52", after := #[{ on := 0, ground := Go.Ground.data }, { on := 0, ground := Go.Ground.phase }, { on := 1, ground := Go.Ground.phase }, { on := 2, ground := Go.Ground.phase }, { on := 3, ground := Go.Ground.phase }, { on := 4, ground := Go.Ground.phase }, { on := 5, ground := Go.Ground.phase }, { on := 6, ground := Go.Ground.phase }, { on := 7, ground := Go.Ground.phase }], guard := none }) rfl (fun K hK => ?_) AllReadyH.nil
            go_simp
            refine hK.out _ _ ⟨p0, trivial⟩ (fun hHeld => ?_)
            clear hK K
            try simp only [Act.put, List.setIfInBounds_toArray, List.set_cons_zero, List.set_cons_succ]
            refine wpAnyH_ready (rs := [9]) (by kernel_rfl) (by simp) ?_
            refine AllReadyH.cons (o := { dst := some 64, op := Go.Op.fieldAddr 34 (Go.Operand.tmp 63) 0, type := 0, pos := "law.go:52", after := #[{ on := 8, ground := Go.Ground.data }, { on := 0, ground := Go.Ground.phase }, { on := 1, ground := Go.Ground.phase }, { on := 2, ground := Go.Ground.phase }, { on := 3, ground := Go.Ground.phase }, { on := 4, ground := Go.Ground.phase }, { on := 5, ground := Go.Ground.phase }, { on := 6, ground := Go.Ground.phase }, { on := 7, ground := Go.Ground.phase }], guard := none }) rfl (fun K hK => ?_) AllReadyH.nil
            go_simp
            refine hK.out _ _ ⟨p0, trivial⟩ (fun hHeld => ?_)
            clear hK K
            try simp only [Act.put, List.setIfInBounds_toArray, List.set_cons_zero, List.set_cons_succ]
            refine wpAnyH_ready (rs := [10]) (by kernel_rfl) (by simp) ?_
            refine AllReadyH.cons (o := { dst := none, op := Go.Op.store 31 (Go.Operand.tmp 64) (Go.Operand.tmp 62), type := 0, pos := "law.go:52", after := #[{ on := 9, ground := Go.Ground.data }, { on := 7, ground := Go.Ground.data }, { on := 7, ground := Go.Ground.chain }, { on := 0, ground := Go.Ground.phase }, { on := 1, ground := Go.Ground.phase }, { on := 2, ground := Go.Ground.phase }, { on := 3, ground := Go.Ground.phase }, { on := 4, ground := Go.Ground.phase }, { on := 5, ground := Go.Ground.phase }, { on := 6, ground := Go.Ground.phase }, { on := 7, ground := Go.Ground.phase }], guard := none }) rfl (fun K hK => ?_) AllReadyH.nil
            go_simp
            refine hK.out _ _ ⟨(World.cell?_setCell_far _ _ _ _ nb0).trans p0, trivial⟩ (fun hHeld => ?_)
            clear hK K
            try simp only [Act.put, List.setIfInBounds_toArray, List.set_cons_zero, List.set_cons_succ]
            refine wpAnyH_done (by kernel_rfl) ?_ _
            obtain ⟨a1, a2⟩ := hiW.app_h hG j hj u2 hown1 hgrow hat (by simp) hpi hsg
            go_wp2_with fail
            go_meet
            case rel => exact ⟨a1, (f3.trans frW).trans a2⟩
        --R6>
      case rest =>
        obtain ⟨hi5, f5⟩ := hcut
        have mv5 : Mv P.B (P.L ++ P.ex) P.ws w' wc := f5.mv
        clear y0 y1 y2 hi4 f3
        obtain ⟨y0, y1, y2, hB⟩ : (SM P).Bx wc bw 30 #[ptr (P.wb j)] ∧ (SM P).Bx wc bs 27 (stC P) ∧ (SM P).Bx wc bl 22 #[.slice A (l.length + 1) cp] ∧ BL P wc (tailO A cp) l := ⟨z0.mv mv5, z1.mv mv5, z2.mv mv5, zB.mv mv5⟩
        clear z0 z1 z2 zB mv5
        generalize wc = W3 at *
        have hsl := slice_tail1 (t := 22) (e := 4) Try.underlying22 (by kernel_rfl) A (l.length + 1) cp (by omega)
        rw [Nat.add_sub_cancel] at hsl
        have e0 := y0.cell
        have e2 := y2.cell
        obtain ⟨c0, c1, c2⟩ : W3.cell? ⟨bs, 0, none⟩ = some (ptr P.p) ∧ W3.cell? ⟨bs, 1, none⟩ = some (.int .i64 0) ∧ W3.cell? ⟨bs, 2, none⟩ = some (.func (.func 38) #[] #[]) := ⟨y1.l.cell 0, y1.l.cell 1, y1.l.cell 2⟩
        have tu3 : Turns [] W3 W3.drew := (Turns.refl [] _).drew
        have okw3 := hM.okw _ _ _ hi5
        have hI4 := SI.tasks (Mv.of_turns tu3 (by simp) (fun x hx => by cases hx)) hi5
        have ht := ht _ (hB.mv (okw3.mv hM tu3)) hI4
        have hF4 := f5.trans (okw3.fr hM tu3)
        have oo := (fun (b : Nat) (t : TypeId) (cs : Array Value) (y : (SM P).Bx W3 b t cs) (W : World) (f : Fr P.L P.ws W3.drew W) => (f.lies (y.l.drew) y.out y.row))
        clear hi5 f5 hB
        go_wp2_with fail
        go_region_held3 (fun W' => W'.cell? ⟨bs, 0, none⟩ = some (ptr P.p) ∧ W'.cell? ⟨bs, 1, none⟩ = some (.int .i64 0) ∧ W'.cell? ⟨bs, 2, none⟩ = some (.func (.func 38) #[] #[]) ∧ W'.cell? ⟨bl, 0, none⟩ = some (.slice A (l.length + 1) cp) ∧ W'.cell? ⟨bw, 0, none⟩ = some (ptr (P.wb j)))
          (first | exact ⟨c0, c1, c2, e2, e0⟩ | exact ⟨u0, u1, u2, u3, u4⟩)
          (first
            | (go_at_call 15
               refine ht.mono ?_
               rintro e w5 ⟨v, rfl, hq5, t5⟩
               have o1 := oo _ _ _ y1 _ t5
               have u0 : w5.cell? ⟨bs, 0, none⟩ = some (ptr P.p) := o1.cell 0
               have u1 : w5.cell? ⟨bs, 1, none⟩ = some (.int .i64 0) := o1.cell 1
               have u2 : w5.cell? ⟨bs, 2, none⟩ = some (.func (.func 38) #[] #[]) := o1.cell 2
               have u3 : w5.cell? ⟨bl, 0, none⟩ = some (.slice A (l.length + 1) cp) := (oo _ _ _ y2 _ t5).cell 0
               have u4 : w5.cell? ⟨bw, 0, none⟩ = some (ptr (P.wb j)) := (oo _ _ _ y0 _ t5).cell 0))
        go_wp2
        go_ret
        exact ⟨v, rfl, hq5, hF4.trans t5⟩
end

end Go.Proofs.Ythkklcmmbpffiaa
