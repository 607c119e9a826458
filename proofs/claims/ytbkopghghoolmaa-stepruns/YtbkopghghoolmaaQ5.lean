/- Tasks: Run. -/
import Derived.Test.YtbkopghghoolmaaQ4
import Derived.Test.YtbkopghghoolmaaArgS
namespace Go.Proofs.Ytbkopghghoolmaa
open Go.RowKit

def updF {α : Type} (f : Nat → α) (j : Nat) (v : α) : Nat → α := fun i => if i = j then v else f i
theorem updF_same {α : Type} (f : Nat → α) (j : Nat) (v : α) : updF f j v j = v := by simp [updF]
theorem updF_ne {α : Type} (f : Nat → α) {i j : Nat} (v : α) (h : i ≠ j) : updF f j v i = f i := by simp [updF, h]

/-- tasks under way: the state, what each still does, how many steps each did, how many were done by Run. -/
structure Cfg (St Pr : Type) where
  s : St
  q : Nat → Pr
  d : Nat → Nat
  n : Nat

section
variable {St Pr : Type} (M : Mc St Pr)
/-- is it a pick that does a step? -/
def doesP (N : Nat) (c : Cfg St Pr) (i : Int) : Bool := decide (0 ≤ i ∧ i < N) && !M.ended (c.q i.toNat)
def pick1 (N : Nat) (c : Cfg St Pr) (i : Int) : Cfg St Pr :=
  if doesP M N c i = true then ⟨(M.step (c.q i.toNat) c.s).2, updF c.q i.toNat (M.step (c.q i.toNat) c.s).1, updF c.d i.toNat (c.d i.toNat + 1), c.n + 1⟩ else c
def pickTo (N : Nat) (c : Cfg St Pr) (xs : List Int) (m : Nat) : Cfg St Pr := (xs.take m).foldl (pick1 M N) c
theorem pickTo_succ (N : Nat) (c : Cfg St Pr) (xs : List Int) (m : Nat) (h : m < xs.length) : pickTo M N c xs (m + 1) = pick1 M N (pickTo M N c xs m) (xs.getD m 0) := by
  unfold pickTo
  rw [List.take_succ_eq_append_getElem h, List.foldl_append]
  simp [List.getD, h]

/-- n tasks, at the blocks ts, with whatever is written beside them in L. -/
structure TRow (w : World) (L : List Nat) (A : Option Addr) (n : Nat) (ts : Nat → Nat) : Prop where
  most : n ≤ maxLen
  inj : ∀ i j, i < n → j < n → ts i = ts j → i = j
  at_ : 0 < n → ∃ a, A = some a ∧ a.block < w.heap.size ∧ a.block ∉ L ∧ (∀ i, i < n → a.block ≠ ts i) ∧ ∀ i, i < n → w.cell? (a.add i) = some (.pointer (some ⟨ts i, 0, none⟩))

/-- the blocks of tasks. -/
def tsL (n : Nat) (ts : Nat → Nat) : List Nat := (List.range n).map ts
theorem tsL_mem {n : Nat} {ts : Nat → Nat} {b : Nat} : b ∈ tsL n ts ↔ ∃ i, i < n ∧ ts i = b := by simp [tsL]

theorem TRow.turn {w w' : World} {L : List Nat} {A : Option Addr} {n : Nat} {ts : Nat → Nat} (h : TRow w L A n ts) (k : Turns (tsL n ts ++ L) w w') : TRow w' L A n ts :=
  ⟨h.most, h.inj, fun hn => by
    obtain ⟨a, e, h1, h2, h3, h4⟩ := h.at_ hn
    refine ⟨a, e, Nat.lt_of_lt_of_le h1 k.size, h2, h3, fun i hi => (k.cell (by rw [add_block]; exact h1) ?_).trans (h4 i hi)⟩
    rw [add_block, List.mem_append, tsL_mem]
    rintro (⟨j, hj, e⟩ | hm)
    · exact h3 j hj e.symm
    · exact h2 hm⟩
theorem TRow.less {w : World} {L L' : List Nat} {A : Option Addr} {n : Nat} {ts : Nat → Nat} (h : TRow w L A n ts) (hL : ∀ b, b ∈ L' → b ∈ L) : TRow w L' A n ts :=
  ⟨h.most, h.inj, fun hn => by
    obtain ⟨a, e, h1, h2, h3, h4⟩ := h.at_ hn
    exact ⟨a, e, h1, fun hm => h2 (hL _ hm), h3, h4⟩⟩

/-- numbers that are handed in, and which no block of L holds. -/
structure RowX (w : World) (L : List Nat) (A : Option Addr) (n : Nat) (xs : List Int) : Prop where
  row : Row w .i64 A n xs
  out : 0 < n → ∀ a, A = some a → a.block ∉ L
theorem RowX.turn {w w' : World} {L : List Nat} {A : Option Addr} {n : Nat} {xs : List Int} (h : RowX w L A n xs) (k : Turns L w w') : RowX w' L A n xs :=
  ⟨⟨h.row.len, h.row.most, h.row.wf, fun hn => by
    obtain ⟨a, e, hb, hc⟩ := h.row.at_ hn
    exact ⟨a, e, Nat.lt_of_lt_of_le hb k.size, fun i hi => (k.cell (by rw [add_block]; exact hb) (by rw [add_block]; exact h.out hn a e)).trans (hc i hi)⟩⟩, h.out⟩

/-- all tasks, in memory. -/
structure All (M : Mc St Pr) (m N : Nat) (ts : Nat → Nat) (c : Cfg St Pr) (W : World) : Prop where
  tk : ∀ i, i < N → TaskAt M m (c.q i) (c.d i) (ts i) W
  inv : M.I m c.s W

variable {M}
theorem TaskAt.keep {m : Nat} {q : Pr} {d t : Nat} {w w' : World} {L' : List Nat} (h : TaskAt M m q d t w) (k : Turns L' w w') (g : Moves M.B M.LL w w') (ht : t ∉ L') : TaskAt M m q d t w' := h.turns k g ht

theorem All.step {m N : Nat} {ts : Nat → Nat} {c : Cfg St Pr} {W : World} (hM : M.Ok) (h : All M (m + 1) N ts c W) (hinj : ∀ i j, i < N → j < N → ts i = ts j → i = j) (j : Nat) (hj : j < N) (he : M.ended (c.q j) = false) (hd : c.d j < 4611686018427387904) :
    Calls Try.prog 32 #[.pointer (some ⟨ts j, 0, none⟩)] W fun e w' => (∃ b, e = .returned (.bool b)) ∧ All M m N ts (pick1 M N c j) w' ∧ Turns (tsL N ts ++ M.L) W w' ∧ Moves M.B M.LL W w' := by
  refine (step_any hM (h.tk j hj) h.inv hd).mono ?_
  rintro e w' ⟨he1, a1, a2, a3, a4⟩
  have hp : doesP M N c j = true := by simp [doesP, he, hj]
  have e1 : stepQ M (c.q j) c.s = (M.step (c.q j) c.s).1 := by simp [stepQ, he]
  have e2 : stepD M (c.q j) (c.d j) = c.d j + 1 := by simp [stepD, he]
  have e3 : stepS M (c.q j) c.s = (M.step (c.q j) c.s).2 := by simp [stepS, he]
  rw [e1, e2] at a1
  rw [e3] at a2
  refine ⟨⟨_, he1⟩, ⟨?_, ?_⟩, a3.more (fun b hb => ?_), a4⟩
  · intro i hi
    unfold pick1
    rw [if_pos hp]
    simp only [Int.toNat_natCast]
    by_cases hij : i = j
    · subst hij
      rw [updF_same, updF_same]
      exact a1
    · rw [updF_ne _ _ hij, updF_ne _ _ hij]
      refine (h.tk i hi).less.turns a3 a4 ?_
      intro hm
      rcases List.mem_cons.1 hm with h1 | h1
      · exact hij (hinj i j hi hj h1)
      · exact (h.tk i hi).out (hM.sub _ h1)
  · unfold pick1
    rw [if_pos hp]
    simpa using a2
  · rcases List.mem_cons.1 hb with h1 | h1
    · subst h1
      exact .inl (List.mem_append.2 (.inl (tsL_mem.2 ⟨j, hj, rfl⟩)))
    · exact .inl (List.mem_append.2 (.inr h1))

theorem pick1_d {N : Nat} (c : Cfg St Pr) (i : Int) (j : Nat) : (pick1 M N c i).d j ≤ c.d j + 1 := by
  unfold pick1
  split
  · simp only [updF]
    split
    · rename_i h; subst h; omega
    · omega
  · omega
theorem pickTo_d {N : Nat} (c : Cfg St Pr) (xs : List Int) (j : Nat) : ∀ m, m ≤ xs.length → (pickTo M N c xs m).d j ≤ c.d j + m
  | 0, _ => by simp [pickTo]
  | m + 1, h => by
    rw [pickTo_succ M N c xs m (by omega)]
    have := pick1_d (M := M) (N := N) (pickTo M N c xs m) (xs.getD m 0) j
    have := pickTo_d (N := N) c xs j m (by omega)
    omega
theorem pick1_no {N : Nat} {c : Cfg St Pr} {i : Int} (h : doesP M N c i = false) : pick1 M N c i = c := by simp [pick1, h]
theorem pick1_n {N : Nat} {c : Cfg St Pr} {i : Int} (h : doesP M N c i = true) : (pick1 M N c i).n = c.n + 1 := by simp [pick1, h]
theorem pickTo_n {N : Nat} (c : Cfg St Pr) (xs : List Int) : ∀ m, m ≤ xs.length → (pickTo M N c xs m).n ≤ c.n + m
  | 0, _ => by simp [pickTo]
  | m + 1, h => by
    rw [pickTo_succ M N c xs m (by omega)]
    have := pickTo_n (N := N) c xs m (by omega)
    unfold pick1
    split
    · show _ + 1 ≤ _; omega
    · omega

/-- in the midst of Run: m picks are done. -/
structure RunAt (M : Mc St Pr) (f N : Nat) (ts : Nat → Nat) (c : Cfg St Pr) (xs : List Int) (w : World) (m : Nat) (W : World) : Prop where
  all : All M (f - m) N ts (pickTo M N c xs m) W
  tu : Turns (tsL N ts ++ M.L) w W
  mo : Moves M.B M.LL w W

theorem All.less {m N : Nat} {ts : Nat → Nat} {c : Cfg St Pr} {W : World} (hM : M.Ok) (h : All M (m + 1) N ts c W) : All M m N ts c W := ⟨fun i hi => (h.tk i hi).less, hM.less _ _ _ h.inv⟩

set_option maxHeartbeats 1000000 in
theorem run_any {f : Nat} (hM : M.Ok) (A B : Option Addr) (N ca n cb : Nat) (ts : Nat → Nat) (xs : List Int) (c : Cfg St Pr) (w : World)
    (hT : TRow w M.L A N ts) (hR : RowX w (tsL N ts ++ M.L) B n xs) (hA : All M f N ts c w) (hf : n ≤ f) (hc : c.n = 0) (hd : ∀ i, i < N → c.d i + n < 4611686018427387904) :
    Calls Try.prog 12 #[.slice A N ca, .slice B n cb] w fun e w' => e = .returned (.int .i64 (pickTo M N c xs n).n) ∧ RunAt M f N ts c xs w n w' := by
  have hmx := hR.row.most
  have hln := hR.row.len
  have hmt := hT.most
  unfold maxLen at hmx hmt
  go_enter Try.func12, Try.ntmps12
  go_wp2_with fail
  go_loopw [5, 10] (fun u i wr => ∃ m : Nat, m ≤ n ∧ i = .int .i64 m ∧ u = .int .i64 (pickTo M N c xs m).n ∧ RunAt M f N ts c xs w m wr) (fun _ i _ => n - (intOf i).toNat)
  case atStart => exact ⟨0, by omega, rfl, by simp [pickTo, hc], ⟨hA, Turns.refl _ _, Moves.refl _ _ _⟩⟩
  case round =>
    obtain ⟨m, hmn, rfl, rfl, hrun⟩ := hrel
    by_cases hlt : m < n
    · have hR' := hR.turn hrun.tu
      have hT' := hT.turn hrun.tu
      obtain ⟨b, rfl, hbb, hcell⟩ := hR'.row.at_ (by omega)
      have hcx := hcell m hlt
      have hwx := i64_of_wf (hR'.row.wf (xs.getD m 0) (by simp [List.getD, show m < xs.length by omega]))
      have hS := Lib.hid (pickTo_succ M N c xs m (by omega))
      have hdn := pickTo_n (M := M) (N := N) c xs m (by omega)
      have hdd := fun i => pickTo_d (M := M) (N := N) c xs i m (by omega)
      have hall := hrun.all
      rw [show f - m = (f - (m + 1)) + 1 by omega] at hall
      have htu := hrun.tu
      have hmo := hrun.mo
      rw [hc] at hdn
      clear hcell hR' hA hrun
      generalize xs.getD m 0 = x at *
      generalize hc' : pickTo M N c xs m = c' at *
      clear hc'
      cases hdo : doesP M N c' x with
      | false =>
        have HS : Hid (pickTo M N c xs (m + 1) = c') := Lib.hid (by rw [hS.out, pick1_no hdo])
        have HR : Hid (All M (f - (m + 1)) N ts c' wr) := Lib.hid (hall.less hM)
        have HN : Hid (RunAt M f N ts c xs w (m + 1) wr) := Lib.hid ⟨by rw [HS.out]; exact HR.out, htu, hmo⟩
        rcases (by omega : x < 0 ∨ 0 ≤ x ∧ (N : Int) ≤ x ∨ 0 ≤ x ∧ x < N) with hx | ⟨hx, hx2⟩ | ⟨hx, hx2⟩
        · clear hall hdo hT' hdd hd
          go_wp2
          go_roundw
          case rel => exact ⟨m + 1, by omega, by go_num, by rw [HS.out], HN.out⟩
          case measure => simp [intOf]; omega
        · clear hall hdo hT' hdd hd
          go_wp2
          go_roundw
          case rel => exact ⟨m + 1, by omega, by go_num, by rw [HS.out], HN.out⟩
          case measure => simp [intOf]; omega
        · obtain ⟨j, rfl⟩ := Int.eq_ofNat_of_zero_le hx
          have hj : j < N := by omega
          have he : M.ended (c'.q j) = true := by simpa [doesP, hj] using hdo
          obtain ⟨a, rfl, ha1, _, _, ha2⟩ := hT'.at_ (by omega)
          have hca := ha2 j hj
          have c1 := ended_any (hall.tk j hj)
          rw [he] at c1
          clear hall hdo hT' hdd hd ha2 he
          go_wp2_with fail
          refine c1.mono ?_
          rintro e w' ⟨rfl, rfl⟩
          go_wp2
          go_roundw
          case rel => exact ⟨m + 1, by omega, by go_num, by rw [HS.out], HN.out⟩
          case measure => simp [intOf]; omega
      | true =>
        have hx : 0 ≤ x ∧ x < N := by simp [doesP] at hdo; omega
        obtain ⟨j, rfl⟩ := Int.eq_ofNat_of_zero_le hx.1
        have hj : j < N := by omega
        have he : M.ended (c'.q j) = false := by simpa [doesP, hj] using hdo
        obtain ⟨a, rfl, ha1, _, _, ha2⟩ := hT'.at_ (by omega)
        have hca := ha2 j hj
        have c1 := ended_any (hall.tk j hj)
        rw [he] at c1
        have hdj := hdd j
        have hdj2 := hd j hj
        have c2 := hall.step hM hT'.inj j hj he (by omega)
        have HS : Hid (pickTo M N c xs (m + 1) = pick1 M N c' j) := Lib.hid hS.out
        have HN : Hid ((pickTo M N c xs (m + 1)).n = c'.n + 1) := Lib.hid (by rw [hS.out, pick1_n hdo])
        clear hall hdo hT' hdd hd ha2 he hdj hdj2
        go_wp2_with fail
        refine c1.mono ?_
        rintro e w' ⟨rfl, rfl⟩
        go_wp2_with fail
        refine c2.mono ?_
        rintro e w1 ⟨⟨bb, rfl⟩, a1, a2, a3⟩
        go_wp2
        go_roundw
        case rel => exact ⟨m + 1, by omega, by go_num, by rw [HN.out]; go_num, ⟨by rw [HS.out]; exact a1, htu.trans a2, hmo.trans a3⟩⟩
        case measure => simp [intOf]; omega
    · obtain rfl : m = n := by omega
      go_wp2
      go_ret
      exact ⟨rfl, hrun⟩
end

end Go.Proofs.Ytbkopghghoolmaa
