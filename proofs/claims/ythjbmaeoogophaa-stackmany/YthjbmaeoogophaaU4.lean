/- Layer 8: one worker alone; the document's example. -/
import Derived.Test.YthjbmaeoogophaaU3
import Derived.ProofKit
import Derived.WalkKit
import Derived.Laws.MakeOwn
import Derived.Deep.Grids
namespace Go.Proofs.Ythjbmaeoogophaa
open Go.RowKit
set_option maxRecDepth 100000

/-- one worker, at block wb, that may note what it is told at g. -/
def SP1 (p c B n wb : Nat) (g : Option Nat) (ex : List Nat := []) : SP := ⟨p, c, B, n, 1, fun _ => wb, fun _ => g, ex⟩
def SSt1 (l : List Int) (k : Int) (hs gt : List Int) (bu ba wr : Bool) : SSt := ⟨l, k, fun _ => hs, fun _ => gt, fun _ => bu, fun _ => ba, fun _ => wr⟩

section
variable {p c B n wb : Nat} {g : Option Nat}
theorem SP1.good (h1 : B ≤ p) (h2 : B ≤ c) (h3 : B ≤ wb) (h4 : ∀ x, g = some x → B ≤ x ∧ x ≠ p ∧ x ≠ c ∧ wb ≠ x) (h5 : p ≠ c) (h6 : wb ≠ p ∧ wb ≠ c) (h7 : n ≤ 1000) : (SP1 p c B n wb g).Good :=
  ⟨⟨h1, h2, fun _ _ => h3, fun _ x _ hx => (h4 x hx).1⟩, fun i j hi hj _ => by have hi : i < 1 := hi; have hj : j < 1 := hj; omega, fun i j x hi hj _ _ => by have hi : i < 1 := hi; have hj : j < 1 := hj; omega,
   ⟨h5, fun _ _ => h6, fun _ x _ hx => ⟨(h4 x hx).2.1, (h4 x hx).2.2.1⟩, fun _ _ x _ _ hx => (h4 x hx).2.2.2⟩, h7⟩

theorem SI.one {W : World} {l : List Int} {k : Int} {hs gt : List Int} {bu ba wr : Bool} {v : Value} {r : Nat} (ha : Arena W p c l k) (hk : k + r ≤ 4611686018427387904) (ho : SOk n l) (hw : Lies W wb 34 #[v, (SP1 p c B n wb g).gotV 0, .bool bu, .bool ba, .bool wr]) (hr : W.ownsRow B 3 1 v hs.length (intVs hs))
    (hg : ∀ x, g = some x → ∃ u, Lies W x 31 #[u] ∧ W.ownsRow B 3 1 u gt.length (intVs gt) ∧ ∀ b, v.ownBlock = some b → u.ownBlock ≠ some b) (hb : ∀ i, i ∈ hs → 0 ≤ i ∧ i < n) (hz : hs.length + r ≤ 5000 ∧ gt.length + r ≤ 5000) :
    SI (SP1 p c B n wb g) r (SSt1 l k hs gt bu ba wr) W := by
  refine ⟨ha, hk, ho, fun j _ => ⟨v, hw, hr⟩, fun j x _ hx => ?_, fun j _ => hb, fun j _ => hz, fun a b h1 h2 hab q o m d o' m' d' e1 e2 => ?_, fun b hb => by cases hb⟩
  · obtain ⟨u, k1, k2, _⟩ := hg x hx
    exact ⟨u, k1, k2⟩
  · have cw : W.cell? ⟨wb, 0, none⟩ = some v := hw.cell 0
    have key : ∀ x, g = some x → (W.cell? ⟨wb, 0, none⟩ = some (.slice (some ⟨q, o, none⟩) m d) ∨ W.cell? ⟨wb, 0, none⟩ = some (.slice (some ⟨q, o', none⟩) m' d')) → ¬ (W.cell? ⟨x, 0, none⟩ = some (.slice (some ⟨q, o, none⟩) m d) ∨ W.cell? ⟨x, 0, none⟩ = some (.slice (some ⟨q, o', none⟩) m' d')) := by
      intro x hx h3 h4
      obtain ⟨u, k1, _, k3⟩ := hg x hx
      have cu : W.cell? ⟨x, 0, none⟩ = some u := k1.cell 0
      rw [cw] at h3
      rw [cu] at h4
      have e3 : v.ownBlock = some q := by rcases h3 with h3 | h3 <;> (injection h3 with h3; rw [h3]; rfl)
      have e4 : u.ownBlock = some q := by rcases h4 with h4 | h4 <;> (injection h4 with h4; rw [h4]; rfl)
      exact k3 q e3 e4
    rcases SP.ws_mem.1 h1 with ⟨j, _, rfl⟩ | ⟨j, x, _, hx, rfl⟩ <;> rcases SP.ws_mem.1 h2 with ⟨j', _, rfl⟩ | ⟨j', x', _, hx', rfl⟩
    · exact hab rfl
    · exact key x' hx' (.inl e1) (.inr e2)
    · exact key x hx (.inr e2) (.inl e1)
    · have hx : g = some x := hx
      have hx' : g = some x' := hx'
      rw [hx] at hx'
      injection hx' with hx'
      subst hx'
      exact hab rfl
end

/-- the same, from the front. -/
def Gm.go {St Pr : Type} (M : Gm St Pr) : Nat → Pr × St → Pr × St
  | 0, x => x
  | n + 1, x => match M.ended x.1 with
    | true => x
    | false => M.go n (M.step x.1 x.2)
section
variable {St Pr : Type} {M : Gm St Pr}
theorem runN_front {q : Pr} {s : St} {d : Nat} (h : M.ended q = false) : ∀ n, (M.runN q s d (n + 1)) = M.runN (M.step q s).1 (M.step q s).2 (d + 1) n
  | 0 => by simp [Gm.runN, Gm.sQ, Gm.sS, Gm.sD, h]
  | n + 1 => by
    have ih := runN_front (s := s) (d := d) h n
    show (M.sQ (M.runN q s d (n + 1)).1 _, M.sS (M.runN q s d (n + 1)).1 _, M.sD (M.runN q s d (n + 1)).1 _) = _
    rw [ih]
    rfl
theorem runN_go : ∀ (n : Nat) (q : Pr) (s : St) (d : Nat), (M.runN q s d n).1 = (M.go n (q, s)).1 ∧ (M.runN q s d n).2.1 = (M.go n (q, s)).2
  | 0, _, _, _ => ⟨rfl, rfl⟩
  | n + 1, q, s, d => by
    cases h : M.ended q with
    | true =>
      have e := runN_end (M := M) (q := q) (s := s) (d := d) (j := 0) h (n + 1)
      rw [Nat.zero_add] at e
      rw [e]
      simp [Gm.go, h, Gm.runN]
    | false =>
      rw [runN_front h]
      have ih := runN_go n (M.step q s).1 (M.step q s).2 (d + 1)
      simp only [Gm.go, h]
      exact ih
end

section
variable {P : SP}
theorem W_start (j : Nat) : ∀ (l : List Bool) (s : SSt), (SM P).W (startS j l s).1 (startS j l s).2
  | [], _ => trivial
  | true :: _, _ => trivial
  | false :: l, s => by
    show (SM P).W (match (s.hs j).getLast? with | none => startS j l s | some i => (⟨j, .pushR i, l⟩, s)).1 (match (s.hs j).getLast? with | none => startS j l s | some i => (⟨j, .pushR i, l⟩, s)).2
    cases h : (s.hs j).getLast? with
    | none => exact W_start j l s
    | some i =>
      show s.hs j ≠ []
      intro e
      rw [e] at h
      cases h
theorem W_step {q : SPr} {s : SSt} (h : (SM P).W q s) : (SM P).W ((SM P).step q s).1 ((SM P).step q s).2 := by
  obtain ⟨j, m, l⟩ := q
  show (SM P).W (skStep P ⟨j, m, l⟩ s).1 (skStep P ⟨j, m, l⟩ s).2
  cases m with
  | done => exact h
  | popR =>
    unfold skStep
    dsimp only
    split
    · exact W_start _ _ _
    · trivial
  | popN o => trivial
  | popT o y =>
    unfold skStep
    dsimp only
    split
    · exact W_start _ _ _
    · trivial
  | pushR i => exact h
  | pushS i o => exact h
  | pushT i o =>
    unfold skStep
    dsimp only
    split
    · exact W_start _ _ _
    · exact h
theorem W_run {q : SPr} {s : SSt} {d : Nat} (h : (SM P).W q s) : ∀ j, (SM P).W ((SM P).runN q s d j).1 ((SM P).runN q s d j).2.1
  | 0 => h
  | j + 1 => by
    have ih := W_run (d := d) h j
    show (SM P).W ((SM P).sQ _ _) ((SM P).sS _ _)
    unfold Gm.sQ Gm.sS
    split
    · exact ih
    · exact W_step ih
end

theorem go_speaks8 (p c B wb g : Nat) : ((SM (SP1 p c B 3 wb (some g))).go 13 (startS 0 [false, false, true, true, true] (SSt1 [0, 0, 0, 0] 0 [2, 1] [] false false false))).1.m = Mic.done ∧ ((SM (SP1 p c B 3 wb (some g))).go 13 (startS 0 [false, false, true, true, true] (SSt1 [0, 0, 0, 0] 0 [2, 1] [] false false false))).2.gt 0 = [2, 1, -1] := by
  exact ⟨by kernel_rfl, by kernel_rfl⟩

end Go.Proofs.Ythjbmaeoogophaa

/- Layer 8: what a worker alone does to the stack. -/
namespace Go.Proofs.Ythjbmaeoogophaa
open Go.RowKit
set_option maxRecDepth 100000

/-- from x on these things follow. -/
def Ch (l : List Int) : Int → List Int → Prop
  | x, [] => x = -1
  | x, i :: is => x = i ∧ 0 ≤ i ∧ Ch l (nxOf (getA l (i + 1))) is
theorem Ch.told {l : List Int} : ∀ {ts : List Int} {x : Int} {n : Nat}, Ch l x ts → (∀ i, i ∈ ts → getA l (i + 1) ≤ 4294967295) → ts.length ≤ n → chL l (fun i => i + 1) n x = ts
  | [], x, n, h, _, _ => by
    have h : x = -1 := h
    rw [h, chL_stop]
  | i :: is, x, n, h, hb, hn => by
    obtain ⟨rfl, h1, h2⟩ := h
    obtain ⟨m, rfl⟩ : ∃ m, n = m + 1 := ⟨n - 1, by simp at hn; omega⟩
    show (if x = -1 then [] else x :: chL l (fun i => i + 1) m (lkd (getA l (x + 1)))) = _
    rw [if_neg (by omega), lkd_nx (hb x (by simp)), Ch.told h2 (fun y hy => hb y (by simp [hy])) (by simp at hn; omega)]
/-- other cells than the links of these were written. -/
theorem Ch.keep {l l' : List Int} : ∀ {ts : List Int} {x : Int}, Ch l x ts → (∀ i, i ∈ ts → getA l' (i + 1) = getA l (i + 1)) → Ch l' x ts
  | [], _, h, _ => h
  | i :: is, _, h, k => ⟨h.1, h.2.1, by
    rw [k i (by simp)]
    exact Ch.keep h.2.2 fun y hy => k y (by simp [hy])⟩

/-- a worker alone: what lies on the stack; with what is in hand these are all things. -/
structure One (n : Nat) (l hs ts : List Int) : Prop where
  ok : SOk n l
  ch : Ch l (hIx (getA l 0)) ts
  all : (ts ++ hs).Perm ((List.range n).map fun i : Nat => (i : Int))

section
variable {n : Nat} {l hs ts : List Int}
theorem One.len (h : One n l hs ts) : ts.length + hs.length = n := by
  have := h.all.length_eq
  simpa using this
theorem One.mem (h : One n l hs ts) {i : Int} (hi : i ∈ ts ∨ i ∈ hs) : 0 ≤ i ∧ i < n := by
  have := h.all.subset (List.mem_append.2 hi)
  obtain ⟨m, hm, rfl⟩ := List.mem_map.1 this
  have := List.mem_range.1 hm
  omega
theorem One.nodup (h : One n l hs ts) : (ts ++ hs).Nodup := h.all.nodup_iff.2 (by
  refine List.pairwise_map.2 (List.nodup_range.imp fun {a b} hne e => hne ?_)
  have e : (a : Int) = b := e
  omega)
theorem One.told (h : One n l hs ts) (hn : n ≤ 1000) : chL l (fun i => i + 1) l.length (hIx (getA l 0)) = ts := h.ch.told (fun i hi => by
  have h1 := h.mem (.inl hi)
  obtain ⟨j, rfl⟩ := Int.eq_ofNat_of_zero_le h1.1
  have := h.ok.link j (by omega)
  omega) (by
  have h1 := h.len
  have h2 := h.ok.len
  omega)
/-- List tells what lies there. -/
theorem One.dom (h : SOk n l) (hf : ∀ i, N64 (getA l i)) (hn : n ≤ 1000) : (hIx (getA l 0) = -1 ∨ (0 ≤ hIx (getA l 0) ∧ hIx (getA l 0) < n)) ∧ ∀ i : Int, 0 ≤ i ∧ i < n → lkd (getA l (i + 1)) = -1 ∨ (0 ≤ lkd (getA l (i + 1)) ∧ lkd (getA l (i + 1)) < n) := by
  refine ⟨?_, fun i hi => ?_⟩
  · have h1 := hIx_in (v := getA l 0)
    have h2 := h.head.2
    unfold Ix0 at h1
    omega
  · obtain ⟨j, rfl⟩ := Int.eq_ofNat_of_zero_le hi.1
    have h1 := h.link j (by omega)
    unfold lkd
    rw [if_neg (by omega)]
    have h2 := hf ((j : Int) + 1)
    unfold N64 at h2
    omega
theorem One.has (h : One n l hs ts) : hasA l 0 = true := by
  have := h.ok.len
  rw [hasA_iff]
  omega

/-- the first thing is taken off. -/
theorem One.pop {i : Int} (h : One n l hs (i :: ts)) (hn : n ≤ 1000) : One n (casA l 0 (getA l 0) (newH (getA l 0) (nxOf (getA l (i + 1))))) (hs ++ [i]) ts := by
  obtain ⟨h1, h2, h3⟩ := h.ch
  have hb : casB l 0 (getA l 0) = true := by simp [casB, h.has]
  have hx : nxOf (getA l (i + 1)) = -1 ∨ (0 ≤ nxOf (getA l (i + 1)) ∧ nxOf (getA l (i + 1)) < n) := by
    cases ts with
    | nil => exact .inl h3
    | cons y ys =>
      right
      rw [h3.1]
      exact h.mem (.inl (by simp))
  have h0 : Ix0 (nxOf (getA l (i + 1))) := by unfold Ix0; omega
  have hl : ∀ y : Int, 0 ≤ y → getA (casA l 0 (getA l 0) (newH (getA l 0) (nxOf (getA l (i + 1))))) (y + 1) = getA l (y + 1) := fun y hy => by rw [getA_casA, if_neg (by omega)]
  refine ⟨h.ok.turn h0 (by omega), ?_, ?_⟩
  · rw [getA_casA, if_pos ⟨rfl, hb⟩, hIx_newH h0]
    exact h3.keep fun y hy => hl y (h.mem (.inl (by simp [hy]))).1
  · refine List.Perm.trans ?_ h.all
    rw [← List.append_assoc]
    exact (List.perm_append_singleton i (ts ++ hs))
/-- what is in hand is put on. -/
theorem One.push {i : Int} (h : One n l (hs ++ [i]) ts) (hn : n ≤ 1000) : One n (casA (setA l (i + 1) (hIx (getA l 0) + 1)) 0 (getA l 0) (newH (getA l 0) i)) hs (i :: ts) := by
  have hi := h.mem (i := i) (.inr (by simp))
  have hnd := h.nodup
  have hni : i ∉ ts := fun hm => by
    rw [List.nodup_append] at hnd
    exact hnd.2.2 i hm i (by simp) rfl
  have hxn := h.ok.head.2
  have hix := hIx_in (v := getA l 0)
  have h0 : getA (setA l (i + 1) (hIx (getA l 0) + 1)) 0 = getA l 0 := by rw [getA_setA, if_neg (by omega)]
  have hh : hasA (setA l (i + 1) (hIx (getA l 0) + 1)) 0 = true := by
    have := h.ok.len
    rw [hasA_iff, setA_length]
    omega
  have hb : casB (setA l (i + 1) (hIx (getA l 0) + 1)) 0 (getA l 0) = true := by simp [casB, hh, h0]
  have hi1 : hasA l (i + 1) = true := by
    have := h.ok.len
    rw [hasA_iff]
    omega
  have i0 : Ix0 i := by unfold Ix0; omega
  have hl : getA (casA (setA l (i + 1) (hIx (getA l 0) + 1)) 0 (getA l 0) (newH (getA l 0) i)) (i + 1) = hIx (getA l 0) + 1 := by
    rw [getA_casA, if_neg (by omega), getA_setA, if_pos ⟨rfl, hi1⟩]
  have hnx : nxOf (hIx (getA l 0) + 1) = hIx (getA l 0) := by
    unfold Ix0 at hix
    unfold nxOf
    rw [if_neg (by omega)]
    omega
  refine ⟨(h.ok.lay hxn hi.1).turn i0 hi.2, ?_, ?_⟩
  · rw [getA_casA, if_pos ⟨rfl, hb⟩, hIx_newH i0]
    refine ⟨rfl, hi.1, ?_⟩
    rw [hl, hnx]
    refine h.ch.keep fun y hy => ?_
    have hyi : y ≠ i := fun e => hni (e ▸ hy)
    have hy0 := (h.mem (.inl hy)).1
    rw [getA_casA, if_neg (by omega), getA_setA, if_neg (by omega)]
  · refine List.Perm.trans ?_ h.all
    rw [← List.append_assoc]
    exact (List.perm_append_singleton i (ts ++ hs)).symm
end

end Go.Proofs.Ythjbmaeoogophaa

/- Layer 8: a worker alone, act by act. -/
namespace Go.Proofs.Ythjbmaeoogophaa
open Go.RowKit
set_option maxRecDepth 100000

section
variable {St Pr : Type} {M : Gm St Pr}
theorem go_end {x : Pr × St} (h : M.ended x.1 = true) : ∀ n, M.go n x = x
  | 0 => rfl
  | n + 1 => by simp [Gm.go, h]
theorem go_one {x : Pr × St} (h : M.ended x.1 = false) (n : Nat) : M.go (n + 1) x = M.go n (M.step x.1 x.2) := by simp [Gm.go, h]
theorem go_add (b : Nat) : ∀ (a : Nat) (x : Pr × St), M.go (a + b) x = M.go b (M.go a x)
  | 0, x => by rw [Nat.zero_add]; rfl
  | a + 1, x => by
    rw [show a + 1 + b = (a + b) + 1 by omega]
    cases h : M.ended x.1 with
    | true => rw [go_end h, go_end h, go_end h]
    | false => rw [go_one h, go_one h, go_add b a]
end

section
variable {P : SP} {s : SSt} {j n : Nat} {l : List Bool} {i : Int} {hs ts : List Int}

theorem pop_one (hn : n ≤ 1000) (h : One n s.l (s.hs j) (i :: ts)) : ∃ s', (SM P).go 3 (⟨j, .popR, l⟩, s) = startS j l s' ∧ One n s'.l (s'.hs j) ts ∧ s'.hs j = s.hs j ++ [i] ∧ s'.wr j = s.wr j := by
  obtain ⟨h1, h2, h3⟩ := h.ch
  have hb : casB s.l 0 (getA s.l 0) = true := by simp [casB, h.has]
  refine ⟨({ s with l := casA s.l 0 (getA s.l 0) (newH (getA s.l 0) (nxOf (getA s.l (hIx (getA s.l 0) + 1)))), k := moreA s.l 0 (moreA s.l (hIx (getA s.l 0) + 1) (moreA s.l 0 s.k)) } : SSt).popped (P.has j) j (hIx (getA s.l 0)) true, ?_, ?_, ?_, ?_⟩
  · rw [go_one rfl 2]
    show (SM P).go 2 (if hIx (getA s.l 0) = -1 then _ else (⟨j, .popN (getA s.l 0), l⟩, { s with k := moreA s.l 0 s.k })) = _
    rw [if_neg (by omega), go_one rfl 1]
    show (SM P).go 1 (⟨j, .popT (getA s.l 0) (nxOf (getA s.l (hIx (getA s.l 0) + 1))), l⟩, _) = _
    rw [go_one rfl 0]
    show (SM P).go 0 (if casB s.l 0 (getA s.l 0) = true then _ else _) = _
    rw [if_pos hb]
    rfl
  · have h4 := h.pop hn
    show One n (casA s.l 0 (getA s.l 0) (newH (getA s.l 0) (nxOf (getA s.l (hIx (getA s.l 0) + 1))))) (updF s.hs j (s.hs j ++ [hIx (getA s.l 0)]) j) ts
    rw [updF_same, h1]
    exact h4
  · show updF s.hs j (s.hs j ++ [hIx (getA s.l 0)]) j = _
    rw [updF_same, h1]
  · show updF s.wr j (s.wr j || (!true && !s.ba j) || (true != decide (0 ≤ hIx (getA s.l 0)))) j = _
    rw [updF_same, decide_eq_true (by omega)]
    simp
theorem pop_none (h : One n s.l (s.hs j) []) : ∃ s', (SM P).go 1 (⟨j, .popR, l⟩, s) = startS j l s' ∧ One n s'.l (s'.hs j) [] ∧ s'.hs j = s.hs j ∧ s'.wr j = (s.wr j || !s.ba j) := by
  have h1 : hIx (getA s.l 0) = -1 := h.ch
  refine ⟨({ s with k := moreA s.l 0 s.k } : SSt).popped (P.has j) j (-1) false, ?_, ?_, ?_, ?_⟩
  · rw [go_one rfl 0]
    show (SM P).go 0 (if hIx (getA s.l 0) = -1 then _ else _) = _
    rw [if_pos h1]
    rfl
  · exact h
  · rfl
  · show updF s.wr j (s.wr j || (!false && !s.ba j) || (false != decide (0 ≤ (-1 : Int)))) j = _
    rw [updF_same]
    simp
theorem push_one (hn : n ≤ 1000) (e : s.hs j = hs ++ [i]) (h : One n s.l (s.hs j) ts) : ∃ s', (SM P).go 3 (⟨j, .pushR i, l⟩, s) = startS j l s' ∧ One n s'.l (s'.hs j) (i :: ts) ∧ s'.hs j = hs ∧ s'.wr j = s.wr j := by
  rw [e] at h
  have hi := h.mem (i := i) (.inr (by simp))
  have hxn := hIx_in (v := getA s.l 0)
  have hb : casB (setA s.l (i + 1) (hIx (getA s.l 0) + 1)) 0 (getA s.l 0) = true := by
    have h0 : getA (setA s.l (i + 1) (hIx (getA s.l 0) + 1)) 0 = getA s.l 0 := by rw [getA_setA, if_neg (by omega)]
    have hh : hasA (setA s.l (i + 1) (hIx (getA s.l 0) + 1)) 0 = true := by
      have := h.ok.len
      rw [hasA_iff, setA_length]
      omega
    simp [casB, hh, h0]
  refine ⟨({ s with l := casA (setA s.l (i + 1) (hIx (getA s.l 0) + 1)) 0 (getA s.l 0) (newH (getA s.l 0) i), k := moreA (setA s.l (i + 1) (hIx (getA s.l 0) + 1)) 0 (moreA s.l (i + 1) (moreA s.l 0 s.k)) } : SSt).pushed j, ?_, ?_, ?_, rfl⟩
  · rw [go_one rfl 2]
    show (SM P).go 2 (⟨j, .pushS i (getA s.l 0), l⟩, _) = _
    rw [go_one rfl 1]
    show (SM P).go 1 (⟨j, .pushT i (getA s.l 0), l⟩, _) = _
    rw [go_one rfl 0]
    show (SM P).go 0 (if casB (setA s.l (i + 1) (hIx (getA s.l 0) + 1)) 0 (getA s.l 0) = true then _ else _) = _
    rw [if_pos hb]
    rfl
  · show One n _ (updF s.hs j (s.hs j).dropLast j) (i :: ts)
    rw [updF_same, e, List.dropLast_concat]
    exact h.push hn
  · show updF s.hs j (s.hs j).dropLast j = _
    rw [updF_same, e, List.dropLast_concat]

/-- what is in hand and what lies there behind these acts. -/
def simA : List Bool → List Int → List Int → List Int × List Int
  | [], hs, ts => (hs, ts)
  | true :: l, hs, [] => simA l hs []
  | true :: l, hs, i :: ts => simA l (hs ++ [i]) ts
  | false :: l, hs, ts => match hs.getLast? with
    | none => simA l hs ts
    | some i => simA l hs.dropLast (i :: ts)
/-- no Pop of these finds none. -/
def finds : List Bool → List Int → List Int → Prop
  | [], _, _ => True
  | true :: _, _, [] => False
  | true :: l, hs, i :: ts => finds l (hs ++ [i]) ts
  | false :: l, hs, ts => match hs.getLast? with
    | none => finds l hs ts
    | some i => finds l hs.dropLast (i :: ts)

theorem run_alone (hn : n ≤ 1000) : ∀ (l : List Bool) (s : SSt) (ts : List Int), One n s.l (s.hs j) ts → ∃ m, m ≤ 3 * l.length ∧ ((SM P).go m (startS j l s)).1.m = .done ∧ One n ((SM P).go m (startS j l s)).2.l (((SM P).go m (startS j l s)).2.hs j) (simA l (s.hs j) ts).2 ∧
    ((SM P).go m (startS j l s)).2.hs j = (simA l (s.hs j) ts).1 ∧ (finds l (s.hs j) ts → ((SM P).go m (startS j l s)).2.wr j = s.wr j)
  | [], s, ts, h => ⟨0, Nat.zero_le _, rfl, h, rfl, fun _ => rfl⟩
  | true :: l, s, [], h => by
    obtain ⟨s', e, h1, h2, h3⟩ := pop_none (P := P) (l := l) (s := { s with bu := updF s.bu j true, ba := updF s.ba j false }) h
    obtain ⟨m, k1, k2, k3, k4, _⟩ := run_alone hn l s' [] h1
    have h2 : s'.hs j = s.hs j := h2
    have eg : (SM P).go (1 + m) (startS j (true :: l) s) = (SM P).go m (startS j l s') := by rw [go_add]; exact congrArg _ e
    rw [h2] at k3 k4
    refine ⟨1 + m, by simp; omega, ?_⟩
    rw [eg]
    exact ⟨k2, k3, k4, fun hf => hf.elim⟩
  | true :: l, s, i :: ts, h => by
    obtain ⟨s', e, h1, h2, h3⟩ := pop_one (P := P) (l := l) (s := { s with bu := updF s.bu j true, ba := updF s.ba j false }) hn h
    obtain ⟨m, k1, k2, k3, k4, k5⟩ := run_alone hn l s' ts h1
    have h2 : s'.hs j = s.hs j ++ [i] := h2
    have h3 : s'.wr j = s.wr j := h3
    have eg : (SM P).go (3 + m) (startS j (true :: l) s) = (SM P).go m (startS j l s') := by rw [go_add]; exact congrArg _ e
    rw [h2] at k3 k4 k5
    refine ⟨3 + m, by simp; omega, ?_⟩
    rw [eg]
    exact ⟨k2, k3, k4, fun hf => (k5 hf).trans h3⟩
  | false :: l, s, ts, h => by
    cases hl : (s.hs j).getLast? with
    | none =>
      have e : startS j (false :: l) s = startS j l s := by
        show (match (s.hs j).getLast? with | none => startS j l s | some i => (⟨j, .pushR i, l⟩, s)) = _
        rw [hl]
      have e2 : simA (false :: l) (s.hs j) ts = simA l (s.hs j) ts := by
        show (match (s.hs j).getLast? with | none => simA l (s.hs j) ts | some i => simA l (s.hs j).dropLast (i :: ts)) = _
        rw [hl]
      have e3 : finds (false :: l) (s.hs j) ts = finds l (s.hs j) ts := by
        show (match (s.hs j).getLast? with | none => finds l (s.hs j) ts | some i => finds l (s.hs j).dropLast (i :: ts)) = _
        rw [hl]
      obtain ⟨m, k1, k2⟩ := run_alone hn l s ts h
      rw [e, e2, e3]
      exact ⟨m, by simp; omega, k2⟩
    | some i =>
      have e : startS j (false :: l) s = (⟨j, .pushR i, l⟩, s) := by
        show (match (s.hs j).getLast? with | none => startS j l s | some i => (⟨j, .pushR i, l⟩, s)) = _
        rw [hl]
      have e2 : simA (false :: l) (s.hs j) ts = simA l (s.hs j).dropLast (i :: ts) := by
        show (match (s.hs j).getLast? with | none => simA l (s.hs j) ts | some i => simA l (s.hs j).dropLast (i :: ts)) = _
        rw [hl]
      have e3 : finds (false :: l) (s.hs j) ts = finds l (s.hs j).dropLast (i :: ts) := by
        show (match (s.hs j).getLast? with | none => finds l (s.hs j) ts | some i => finds l (s.hs j).dropLast (i :: ts)) = _
        rw [hl]
      have es : s.hs j = (s.hs j).dropLast ++ [i] := by
        obtain ⟨ys, hy⟩ := List.getLast?_eq_some_iff.1 hl
        rw [hy, List.dropLast_concat]
      obtain ⟨s', e', h1, h2, h3⟩ := push_one (P := P) (l := l) hn es h
      obtain ⟨m, k1, k2, k3, k4, k5⟩ := run_alone hn l s' (i :: ts) h1
      have eg : (SM P).go (3 + m) (startS j (false :: l) s) = (SM P).go m (startS j l s') := by rw [go_add, e]; exact congrArg _ e'
      rw [h2] at k3 k4 k5
      refine ⟨3 + m, by simp; omega, ?_⟩
      rw [eg, e2, e3]
      exact ⟨k2, k3, k4, fun hf => (k5 hf).trans h3⟩
end

end Go.Proofs.Ythjbmaeoogophaa

/- Layer 8: a task alone comes to its end. -/
namespace Go.Proofs.Ythjbmaeoogophaa
open Go.RowKit
set_option maxRecDepth 100000

section
variable {P : SP} {j n : Nat}

theorem runN_of_go {St Pr : Type} {M : Gm St Pr} {q : Pr} {s : St} {d m most : Nat} (hm : m ≤ most) (he : M.ended (M.go m (q, s)).1 = true) :
    (M.runN q s d most).1 = (M.go m (q, s)).1 ∧ (M.runN q s d most).2.1 = (M.go m (q, s)).2 := by
  obtain ⟨e1, e2⟩ := runN_go (M := M) m q s d
  have h : M.ended (M.runN q s d m).1 = true := by rw [e1]; exact he
  have e := runN_end h (most - m)
  rw [show m + (most - m) = most by omega] at e
  rw [e]
  exact ⟨e1, e2⟩
theorem ended_done {q : SPr} (h : q.m = .done) : (SM P).ended q = true := by
  show (match q.m with | .done => true | _ => false) = true
  rw [h]

/-- all these acts, by a worker alone. -/
theorem act_run (hn : n ≤ 1000) (l : List Bool) (s : SSt) (ts : List Int) (h : One n s.l (s.hs j) ts) (d most : Nat) (hm : 3 * l.length ≤ most) :
    (SM P).ended ((SM P).runN (startS j l s).1 (startS j l s).2 d most).1 = true ∧ One n ((SM P).runN (startS j l s).1 (startS j l s).2 d most).2.1.l (((SM P).runN (startS j l s).1 (startS j l s).2 d most).2.1.hs j) (simA l (s.hs j) ts).2 ∧
      ((SM P).runN (startS j l s).1 (startS j l s).2 d most).2.1.hs j = (simA l (s.hs j) ts).1 ∧ (finds l (s.hs j) ts → ((SM P).runN (startS j l s).1 (startS j l s).2 d most).2.1.wr j = s.wr j) := by
  obtain ⟨m, h1, h2, h3, h4, h5⟩ := run_alone (P := P) hn l s ts h
  obtain ⟨e1, e2⟩ := runN_of_go (M := SM P) (q := (startS j l s).1) (s := (startS j l s).2) (d := d) (most := most) (m := m) (by omega) (ended_done h2)
  rw [e1, e2]
  exact ⟨ended_done h2, h3, h4, h5⟩

/-- one act, with the mark b of a moment without things laid ahead of its steps. -/
theorem act_one (hn : n ≤ 1000) (pop b : Bool) (s : SSt) (ts : List Int) (h : One n s.l (s.hs j) ts) (hb : ts = [] → b = true) (d most : Nat) (hm : 3 ≤ most) :
    (SM P).ended ((SM P).runN (startS j [pop] s).1 ((startS j [pop] s).2.mark j 3 b) d most).1 = true ∧ One n ((SM P).runN (startS j [pop] s).1 ((startS j [pop] s).2.mark j 3 b) d most).2.1.l (((SM P).runN (startS j [pop] s).1 ((startS j [pop] s).2.mark j 3 b) d most).2.1.hs j) (simA [pop] (s.hs j) ts).2 ∧
      ((SM P).runN (startS j [pop] s).1 ((startS j [pop] s).2.mark j 3 b) d most).2.1.hs j = (simA [pop] (s.hs j) ts).1 ∧ ((SM P).runN (startS j [pop] s).1 ((startS j [pop] s).2.mark j 3 b) d most).2.1.wr j = s.wr j := by
  have key : ∀ (q : SPr) (s1 s2 : SSt) (m : Nat) (hs' ts' : List Int), m ≤ most → (SM P).go m (q, s1) = (⟨j, .done, []⟩, s2) → One n s2.l (s2.hs j) ts' → s2.hs j = hs' → s2.wr j = s.wr j →
      (SM P).ended ((SM P).runN q s1 d most).1 = true ∧ One n ((SM P).runN q s1 d most).2.1.l (((SM P).runN q s1 d most).2.1.hs j) ts' ∧ ((SM P).runN q s1 d most).2.1.hs j = hs' ∧ ((SM P).runN q s1 d most).2.1.wr j = s.wr j := by
    intro q s1 s2 m hs' ts' h1 h2 h3 h4 h5
    obtain ⟨e1, e2⟩ := runN_of_go (M := SM P) (q := q) (s := s1) (d := d) (most := most) (m := m) h1 (by rw [h2]; rfl)
    rw [e1, e2, h2]
    exact ⟨rfl, h3, h4, h5⟩
  cases pop with
  | true =>
    cases ts with
    | nil =>
      obtain ⟨s', e, h1, h2, h3⟩ := pop_none (P := P) (l := []) (s := ({ s with bu := updF s.bu j true, ba := updF s.ba j false } : SSt).mark j 3 b) h
      refine key _ _ s' 1 _ _ (by omega) e h1 h2 ?_
      rw [h3, hb rfl]
      show (s.wr j || !updF (updF s.ba j false) j true j) = s.wr j
      rw [updF_same]
      simp
    | cons i ts =>
      obtain ⟨s', e, h1, h2, h3⟩ := pop_one (P := P) (l := []) (s := ({ s with bu := updF s.bu j true, ba := updF s.ba j false } : SSt).mark j 3 b) hn h
      exact key _ _ s' 3 _ _ (by omega) e h1 h2 h3
  | false =>
    cases hl : (s.hs j).getLast? with
    | none =>
      have e : startS j [false] s = (⟨j, .done, []⟩, s) := by
        show (match (s.hs j).getLast? with | none => startS j [] s | some i => (⟨j, .pushR i, []⟩, s)) = _
        rw [hl]
        rfl
      have e2 : simA [false] (s.hs j) ts = (s.hs j, ts) := by
        show (match (s.hs j).getLast? with | none => simA [] (s.hs j) ts | some i => simA [] (s.hs j).dropLast (i :: ts)) = _
        rw [hl]
        rfl
      rw [e, e2]
      exact key _ _ (s.mark j 3 b) 0 _ _ (by omega) rfl h rfl rfl
    | some i =>
      have e : startS j [false] s = (⟨j, .pushR i, []⟩, s) := by
        show (match (s.hs j).getLast? with | none => startS j [] s | some i => (⟨j, .pushR i, []⟩, s)) = _
        rw [hl]
      have e2 : simA [false] (s.hs j) ts = ((s.hs j).dropLast, i :: ts) := by
        show (match (s.hs j).getLast? with | none => simA [] (s.hs j) ts | some i => simA [] (s.hs j).dropLast (i :: ts)) = _
        rw [hl]
        rfl
      have es : s.hs j = (s.hs j).dropLast ++ [i] := by
        obtain ⟨ys, hy⟩ := List.getLast?_eq_some_iff.1 hl
        rw [hy, List.dropLast_concat]
      obtain ⟨s', e', h1, h2, h3⟩ := push_one (P := P) (l := []) (s := s.mark j 3 b) hn es h
      rw [e, e2]
      exact key _ _ s' 3 _ _ (by omega) e' h1 h2 h3
end

end Go.Proofs.Ythjbmaeoogophaa

/- Layer 8: the document's example. -/
namespace Go.Proofs.Ythjbmaeoogophaa
open Go.RowKit
set_option maxRecDepth 100000

section
variable {P : SP} {r : Nat} {s : SSt} {W W' : World}
theorem SI.below (hG : P.Good) (h : SI P r s W) {L : List Nat} (hL : ∀ b, b ∈ L → b ∈ P.L ∨ P.B ≤ b) (f : Fr L P.ws W W') : Below P.B W W' :=
  f.below (fun b hb => by
    rcases hL b hb with h1 | h1
    · exact (sm_ok P hG).low b h1
    · exact h1) (fun b hb => (h.rw hb).1) ((sm_ok P hG).okw _ _ _ h).base
theorem getA_zero (m : Nat) (i : Int) : getA (List.replicate m 0) i = 0 := by
  rcases hasA_cases (List.replicate m 0) i with h | ⟨k, rfl, h⟩
  · exact getA_out h
  · rw [getA_nat h]
    exact List.getElem_replicate _
theorem sok_zero (n : Nat) : SOk n (List.replicate (n + 1) 0) :=
  ⟨by simp, by rw [getA_zero]; exact ⟨by unfold N64; omega, by unfold hIx; omega⟩, fun i _ => by rw [getA_zero]; omega⟩
/-- bools that were just laid. -/
theorem BL.new {W : World} {g n : Nat} {bs : List Bool} {cs : Array Value} (h : Lies W g 4 cs) (hn : bs.length = n) (hc : ∀ i, i < n → cs[i]? = some (.bool (bs.getD i false))) (hm : n ≤ 100000) (h1 : g ∉ P.L ++ P.ex) (h2 : ¬ Rw P.ws W g) : BL P W (some ⟨g, 0, none⟩) bs := by
  subst hn
  refine ⟨hm, fun _ => ⟨_, rfl, h.lt, h1, h2, fun q => q.ne h (by decide), fun i hi => ?_⟩⟩
  rw [Addr.add_mid, Nat.zero_add, h.cell i]
  exact hc i hi
end

set_option maxHeartbeats 1000000 in
theorem speaks8_any (w : World) : Calls Try.prog 12 #[] w fun e w' => e = .returned (.bool true) ∧ Below w.heap.size w w' := by
  have hf := fresh8_any 3 (by omega) w
  have y2 := fun (a : Addr) (f : FuncId) (c : Array Value) (w : World) => run_store Try.prog w a (.func (.func f) #[] c) .plain rfl
  go_enter Try.func12, Try.ntmps12
  go_wp2_with fail
  refine (show Calls Try.prog 13 #[.int .i64 3] _ _ from hf).mono ?_
  rintro e w1 ⟨p, c, rfl, ha, hb, hc, hp⟩
  clear hf
  go_wp2_with fail
  have hz1 := ha.head.lt
  have hb1 := hb.size
  generalize hh : w1.heap.size = h1 at *
  obtain ⟨W6, hW6⟩ : ∃ W6, (((((w1.alloc (.cells #[.pointer (some ⟨p, 0, none⟩), .int .i64 0, .func (.func 38) #[] #[]] 27)).alloc (.cells #[.slice none 0 0] 31)).alloc (.cells #[.bool false, .bool false, .bool true, .bool true, .bool true] 4)).alloc (.cells #[.int .i64 2, .int .i64 1] 3)).alloc (.cells #[.slice (some ⟨h1 + 1 + 1 + 1, 0, none⟩) 2 2, .pointer (some ⟨h1 + 1, 0, none⟩), .bool false, .bool false, .bool false] 34)) = W6 := ⟨_, rfl⟩
  have k6 : Turns [] w1 W6 := by rw [← hW6]; exact (((((Turns.refl _ _).alloc _).alloc _).alloc _).alloc _).alloc _
  have l1 : Lies W6 (h1 + 1) 31 #[.slice none 0 0] := by rw [← hW6]; exact (((Lies.new_of _ _ (by simp [hh])).alloc _).alloc _).alloc _
  have l2 : Lies W6 (h1 + 1 + 1) 4 #[.bool false, .bool false, .bool true, .bool true, .bool true] := by rw [← hW6]; exact ((Lies.new_of _ _ (by simp [hh])).alloc _).alloc _
  have l3 : Lies W6 (h1 + 1 + 1 + 1) 3 #[.int .i64 2, .int .i64 1] := by rw [← hW6]; exact (Lies.new_of _ _ (by simp [hh])).alloc _
  have l4 : Lies W6 (h1 + 1 + 1 + 1 + 1) 34 #[.slice (some ⟨h1 + 1 + 1 + 1, 0, none⟩) 2 2, .pointer (some ⟨h1 + 1, 0, none⟩), .bool false, .bool false, .bool false] := by rw [← hW6]; exact Lies.new_of _ _ (by simp [hh])
  have ha6 := ha.turn k6 (by simp) (by simp)
  obtain ⟨P, hP⟩ : ∃ P, SP1 p c w.heap.size 3 (h1 + 1 + 1 + 1 + 1) (some (h1 + 1)) = P := ⟨_, rfl⟩
  have hG : P.Good := by
    rw [← hP]
    exact SP1.good (by omega) hc (by omega) (fun x hx => by injection hx with hx; subst hx; omega) (by omega) (by omega) (by omega)
  obtain ⟨s0, hs0⟩ : ∃ s0, SSt1 [0, 0, 0, 0] 0 [2, 1] [] false false false = s0 := ⟨_, rfl⟩
  have hI : SI P 60 s0 W6 := by
    rw [← hP, ← hs0]
    refine SI.one ha6 (by omega) (sok_zero 3) l4 ?_ (fun x hx => ?_) (by decide) (by simp)
    · exact ⟨rfl, .inr ⟨_, 2, _, rfl, by omega, l3, Nat.le_refl 2, by simp only [maxLen]; omega, rfl, rfl⟩⟩
    · injection hx with hx
      subst hx
      exact ⟨_, l1, World.ownsRow_nil _ _ _ _, fun b _ h => by cases h⟩
  have okw := (sm_ok P hG).okw _ _ _ hI
  have notin : ∀ x, x = h1 + 1 + 1 → x ∉ P.L ++ P.ex := fun x hx hm => by
    rw [← hP] at hm
    have hm := (List.mem_append.1 hm).resolve_right (by simp [SP1])
    rcases SP.L_mem.1 hm with h | h | ⟨j, _, h⟩ | ⟨j, _, h⟩
    · have h : x = p := h
      omega
    · have h : x = c := h
      omega
    · have h : h1 + 1 + 1 + 1 + 1 = x := h
      omega
    · injection h with h
      omega
  have hBL : BL P W6 (some ⟨h1 + 1 + 1, 0, none⟩) [false, false, true, true, true] := BL.new l2 (n := 5) rfl (fun i hi => by rcases (by omega : i = 0 ∨ i = 1 ∨ i = 2 ∨ i = 3 ∨ i = 4) with rfl | rfl | rfl | rfl | rfl <;> rfl) (by omega) (notin _ rfl) (fun h => by
    obtain ⟨_, cur, h2⟩ := hI.rw h
    exact h2.unlike l2 (by decide) rfl)
  have hcode := code_g hG 60 [false, false, true, true, true] 0 (some ⟨h1 + 1 + 1, 0, none⟩) 5 W6 60 s0 (by rw [← hP]; exact Nat.one_pos) hBL (by simp) hI
  have hA : #[stV P, Value.slice (some ⟨h1 + 1 + 1, 0, none⟩) [false, false, true, true, true].length 5, ptr (P.wb 0)] = #[chV p 0 38 #[], Value.slice (some ⟨h1 + 1 + 1, 0, none⟩) 5 5, ptr (h1 + 1 + 1 + 1 + 1)] := by rw [← hP]; rfl
  unfold Gm.Then at hcode
  rw [hA] at hcode
  obtain ⟨R, hR⟩ : ∃ R, startS 0 [false, false, true, true, true] s0 = R := ⟨_, rfl⟩
  rw [hR] at hcode
  have hg := go_speaks8 p c w.heap.size (h1 + 1 + 1 + 1 + 1) (h1 + 1)
  rw [hP, hs0, hR] at hg
  have hWR : (SM P).W R.1 R.2 := by rw [← hR]; exact W_start _ _ _
  have hend : (SM P).ended ((SM P).runN R.1 R.2 0 60).1 = true ∧ ((SM P).runN R.1 R.2 0 60).2.1.gt 0 = [2, 1, -1] := by
    obtain ⟨e1, e2⟩ := runN_go (M := SM P) 13 R.1 R.2 0
    have h13 : (SM P).ended ((SM P).runN R.1 R.2 0 13).1 = true := by
      rw [e1]
      show (match ((SM P).go 13 R).1.m with | .done => true | _ => false) = true
      rw [hg.1]
    have e := runN_end h13 47
    rw [show 13 + 47 = 60 by omega] at e
    rw [e, e2]
    exact ⟨e1 ▸ h13, hg.2⟩
  have gp : P.gp 0 = some (h1 + 1) ∧ P.nw = 1 ∧ P.B = w.heap.size := by rw [← hP]; exact ⟨rfl, rfl, rfl⟩
  have b6 : Below w.heap.size w W6 := hb.trans (k6.below (by simp) (by omega))
  have b7 := fun W' (f : Fr P.L P.ws W6 W') => hI.below hG (fun b hb => .inl hb) f
  rw [gp.2.2] at b7
  have HEND := Lib.hid hend
  have HGP := Lib.hid gp
  rw [hW6]
  clear hA hR hg hend gp hP hs0 hI hBL notin l1 l2 l3 l4 ha6 k6 hb ha okw hW6 hh hz1 hb1
  refine hcode.mono ?_
  rintro e w7 ⟨v, rfl, ⟨hi7, hc7⟩, f7⟩
  have hn := newtask_any v hc7.is w7
  go_wp2_with fail
  refine hn.mono ?_
  rintro e w8 ⟨rfl, hw8⟩
  have hM := sm_ok P hG
  have tk := Gm.Task.made hM (hM.okw _ _ _ hi7) hc7
  have k8 : Turns [] w7 (w7.alloc (.cells #[v, .int .i64 0] 89)) := (Turns.refl _ _).alloc _
  have hi8 := hM.made k8 hi7
  have b8 : Below w.heap.size w7 (w7.alloc (.cells #[v, .int .i64 0] 89)) := k8.below (by simp) (by have := (b7 _ f7).size; have := b6.size; omega)
  rw [hw8] at tk hi8 b8
  have hfin := finish_g hM 60 (Nat.le_refl _) tk hi8 (fun j _ _ => W_run hWR j) (by omega)
  rw [HEND.out.1] at hfin
  have b9 := fun W' (f : Fr (w7.heap.size :: P.L) P.ws w8 W') => SI.below hG hi8 (fun b hb => by
    rcases List.mem_cons.1 hb with h | h
    · right
      rw [HGP.out.2.2, h]
      have := (b7 _ f7).size
      have := b6.size
      omega
    · exact .inl h) f
  rw [HGP.out.2.2] at b9
  have b8 := (b6.trans (b7 _ f7)).trans b8
  clear hw8 tk hi8 hi7 hc7 hn hcode b6 b7 k8 f7
  go_wp2_with fail
  refine (show Calls Try.prog 18 #[ptr w7.heap.size, .int .i64 60] _ _ from hfin).mono ?_
  rintro e w9 ⟨rfl, _, hi9, f9, _⟩
  obtain ⟨x, hx, hox⟩ := SI.gt hi9 0 (h1 + 1) (by rw [HGP.out.2.1]; omega) HGP.out.1
  rw [HEND.out.2] at hox
  have b9 := b8.trans (b9 _ f9)
  have hrx : IRow w9 P.B x [2, 1, -1] := ⟨hox, by intro y hy; simp at hy; rcases hy with rfl | rfl | rfl <;> decide⟩
  obtain ⟨A, cx, rfl, hrw⟩ := hrx.row
  have c9 : w9.cell? ⟨h1 + 1, 0, none⟩ = some (.slice A 3 cx) := hx.cell 0
  have hlit := IRow.lit w9 (B := w.heap.size) [2, 1, -1] #[.int .i64 2, .int .i64 1, .int .i64 (-1)] rfl (by have := b9.size; omega) hrx.ints (by simp)
  obtain ⟨A', c', e', hrw'⟩ := hlit.row
  have bz : Below w9.heap.size w9 (w9.alloc (.cells #[.int .i64 2, .int .i64 1, .int .i64 (-1)] 3)) := (Below.refl _ _).alloc (Nat.le_refl _) _
  have hs := rsame_any A A' 3 cx c' [2, 1, -1] _ (hrw.keep (Nat.le_refl _) bz) hrw'
  injection e' with ea eb ec
  subst ea
  subst ec
  clear eb
  have b10 := b9.trans (bz.mono (by have := b9.size; omega))
  have hz := b10.size
  clear hfin hi9 f9 hx hox hrx hlit hrw hrw' HEND b8
  go_wp2_with fail
  refine hs.mono ?_
  rintro e w10 ⟨rfl, hz10⟩
  go_wp2
  go_ret
  exact ⟨rfl, b10.trans (hz10.mono hz)⟩

end Go.Proofs.Ythjbmaeoogophaa

/- Layer 8: what is put on, taken, and put back. -/
namespace Go.Proofs.Ythjbmaeoogophaa
open Go.RowKit

/-- the numbers from 0 to m - 1. -/
def upto (m : Nat) : List Int := (List.range m).map fun i : Nat => (i : Int)
theorem upto_succ (m : Nat) : upto (m + 1) = upto m ++ [(m : Int)] := by unfold upto; rw [List.range_succ, List.map_append]; rfl
theorem upto_length (m : Nat) : (upto m).length = m := by simp [upto]

section
variable {n : Nat}
theorem simA_false (l : List Bool) (hs ts : List Int) (i : Int) : simA (false :: l) (hs ++ [i]) ts = simA l hs (i :: ts) := by
  show (match (hs ++ [i]).getLast? with | none => simA l (hs ++ [i]) ts | some i' => simA l (hs ++ [i]).dropLast (i' :: ts)) = _
  rw [List.getLast?_concat, List.dropLast_concat]
theorem finds_false (l : List Bool) (hs ts : List Int) (i : Int) : finds (false :: l) (hs ++ [i]) ts = finds l hs (i :: ts) := by
  show (match (hs ++ [i]).getLast? with | none => finds l (hs ++ [i]) ts | some i' => finds l (hs ++ [i]).dropLast (i' :: ts)) = _
  rw [List.getLast?_concat, List.dropLast_concat]

/-- the last m things in hand are put on. -/
theorem put_on : ∀ (m : Nat) (hs xs ts : List Int), xs.length = m → simA (List.replicate m false) (hs ++ xs) ts = (hs, xs ++ ts) ∧ finds (List.replicate m false) (hs ++ xs) ts
  | 0, hs, xs, ts, h => by
    obtain rfl := List.length_eq_zero_iff.1 h
    rw [List.append_nil]
    exact ⟨rfl, trivial⟩
  | m + 1, hs, xs, ts, h => by
    have hne : xs ≠ [] := fun e => by rw [e] at h; cases h
    obtain ⟨ys, y, rfl⟩ : ∃ ys y, xs = ys ++ [y] := ⟨xs.dropLast, xs.getLast hne, (List.dropLast_concat_getLast hne).symm⟩
    have hl : ys.length = m := by simp at h; omega
    obtain ⟨e1, e2⟩ := put_on m hs ys (y :: ts) hl
    rw [List.replicate_succ, ← List.append_assoc, simA_false, finds_false]
    exact ⟨by rw [e1]; simp, e2⟩
/-- the first m things are taken. -/
theorem taken : ∀ (m : Nat) (hs xs ts : List Int), xs.length = m → simA (List.replicate m true) hs (xs ++ ts) = (hs ++ xs, ts) ∧ finds (List.replicate m true) hs (xs ++ ts)
  | 0, hs, xs, ts, h => by
    obtain rfl := List.length_eq_zero_iff.1 h
    rw [List.append_nil]
    exact ⟨rfl, trivial⟩
  | m + 1, hs, xs, ts, h => by
    cases xs with
    | nil => cases h
    | cons x xs =>
      have hl : xs.length = m := by simp at h; omega
      obtain ⟨e1, e2⟩ := taken m (hs ++ [x]) xs ts hl
      rw [List.replicate_succ]
      show simA (List.replicate m true) (hs ++ [x]) (xs ++ ts) = _ ∧ finds (List.replicate m true) (hs ++ [x]) (xs ++ ts)
      exact ⟨by rw [e1]; simp, e2⟩

/-- a stack without things; all are in hand. -/
theorem one_start (k : Nat) : One k (List.replicate (k + 1) 0) (upto k) [] := by
  refine ⟨sok_zero k, ?_, List.Perm.refl _⟩
  show hIx (getA (List.replicate (k + 1) 0) 0) = -1
  rw [getA_zero]
  unfold hIx
  omega
/-- StackBack's three tasks: all put on; the first m taken; put back. -/
theorem back_all (k m : Nat) (hm : m ≤ k) :
    (simA (List.replicate k false) (upto k) [] = ([], upto k) ∧ finds (List.replicate k false) (upto k) []) ∧
      (simA (List.replicate m true) [] (upto k) = ((upto k).take m, (upto k).drop m) ∧ finds (List.replicate m true) [] (upto k)) ∧
      (simA (List.replicate m false) ((upto k).take m) ((upto k).drop m) = ([], upto k) ∧ finds (List.replicate m false) ((upto k).take m) ((upto k).drop m)) := by
  have hl := upto_length k
  have ht : ((upto k).take m).length = m := by rw [List.length_take, hl]; omega
  have h1 := put_on k [] (upto k) [] hl
  have h2 := taken m [] ((upto k).take m) ((upto k).drop m) ht
  have h3 := put_on m [] ((upto k).take m) ((upto k).drop m) ht
  rw [List.take_append_drop] at h2 h3
  simp only [List.nil_append, List.append_nil] at h1 h2 h3
  exact ⟨h1, h2, h3⟩
end

end Go.Proofs.Ythjbmaeoogophaa

/- Slices of the call's own, one cell an element, whatever they have; bools among them. (Parted out of Q16.) -/
namespace Go.Proofs.Ythjbmaeoogophaa
open Go.RowKit Go.ChangeShapes Go.WideShapes

/-- the slice v, of the call's own from block B on, has the values vs, one cell each. -/
structure VRow (W : World) (B : Nat) (E : TypeId) (v : Value) (vs : List Value) : Prop where
  own : W.ownsRow B E 1 v vs.length vs
section
variable {W W' : World} {B : Nat} {E : TypeId} {v : Value} {vs : List Value}
theorem VRow.nil (W : World) (B : Nat) (E : TypeId) : VRow W B E (.slice none 0 0) [] := ⟨⟨rfl, .inl ⟨rfl, rfl⟩⟩⟩
theorem VRow.kept (h : VRow W B E v vs) (k : ∀ g, v.ownBlock = some g → W'.heap[g]? = W.heap[g]?) : VRow W' B E v vs := by
  refine ⟨⟨h.own.1, ?_⟩⟩
  rcases h.own.2 with h1 | ⟨g, cap, cur, h1, h2, h3, h4⟩
  · exact .inl h1
  · exact .inr ⟨g, cap, cur, h1, h2, (k g (by rw [h1]; rfl)).trans h3, h4⟩
theorem VRow.turns {L : List Nat} (h : VRow W B E v vs) (k : Turns L W W') (hL : ∀ g, v.ownBlock = some g → g ∉ L) : VRow W' B E v vs :=
  h.kept fun g hg => k.block g (h.own.lt g hg).2 (hL g hg)
theorem VRow.lies (h : VRow W B E v vs) {g : Nat} (hg : v.ownBlock = some g) : B ≤ g ∧ ∃ cur, Lies W g E cur := by
  rcases h.own.2 with ⟨rfl, _⟩ | ⟨g', cap, cur, rfl, h2, h3, _⟩
  · cases hg
  · simp [Value.ownBlock] at hg
    subst hg
    exact ⟨h2, cur, h3⟩
theorem VRow.slice (h : VRow W B E v vs) : ∃ A cp, v = .slice A vs.length cp ∧ vs.length ≤ maxLen ∧ (0 < vs.length → ∃ g, A = some ⟨g, 0, none⟩ ∧ v.ownBlock = some g ∧ ∀ i u, vs[i]? = some u → W.cell? ⟨g, i, none⟩ = some u) := by
  rcases h.own.2 with ⟨rfl, h0⟩ | ⟨g, cap, cur, rfl, h2, h3, h4, h5, _⟩
  · exact ⟨none, 0, by rw [h0], by simp [h0], fun hn => by omega⟩
  · refine ⟨_, _, rfl, by omega, fun hn => ⟨g, rfl, rfl, fun i u hu => ?_⟩⟩
    have := h.own.cells (g := g) rfl i u hu
    rwa [add_head4] at this

/-- one value more. -/
theorem wpList_vrow {T : TypeId} {z u : Value} {ops : Array Oper} {rest : List Oper} {o : Oper} {a : Act} {Q : Exit → Act → World → Prop} (hT : Try.prog.underlying T = some (.slice E)) {nb : Nat} (hinfo : (Try.prog.info? E).map (fun i => (i.zero, i.size, i.bytes)) = some (some z, 1, nb)) (hnb : nb ≤ 1000) (hz : z.cells.size = 1) (hu : u.oneCell' = true)
    (h : VRow W B E v vs) (hB : B ≤ W.heap.size) (hl : vs.length ≤ 10000) (hgd : Region.wanted o (yielded ops a.tmps) = true) (s x : Operand) (ho : o.op = .call { callee := .builtin .append, args := #[s, x], argTypes := #[T, T] })
    (hs : a.eval s = v) (hx : a.eval x = .slice (some ⟨W.heap.size, 0, none⟩) 1 1)
    (hK : ∀ v' w', VRow w' B E v' (vs ++ [u]) → Turns v.ownBlock.toList W w' → wpList Try.prog ops Q rest (a.put o.dst v') w') : wpList Try.prog ops Q (o :: rest) a (W.alloc (.cells #[u] E)) := by
  obtain ⟨i0, hi0, hz0, hz1, hz2⟩ := info_parts hinfo
  refine wpList_step fun K hK0 => ?_
  rw [if_pos hgd]
  refine wp_append_own _ s x T ho B E i0 _ 1 nb hT hi0 hz0 hz1 hz2 hz (by omega) v vs.length vs hs (h.own.alloc _) ⟨W.heap.size, 0, none⟩ 1 1 [u] hx rfl ?_ ?_ (by simp only [maxLen]; omega) (Nat.le_trans (Nat.mul_le_mul (show vs.length + 1 ≤ 10001 by omega) hnb) (by omega)) (by simp; omega) ?_
  · intro j y hy
    match j, hy with
    | 0, hy =>
      simp at hy
      subst hy
      simp [Addr.add]
  · intro y hy
    simp at hy
    subst hy
    exact hu
  · intro v' w' h1 h2 _
    refine hK0 _ _ (hK v' w' ⟨by simpa using h1⟩ ⟨h2.os, h2.tape, h2.output, ?_, fun k hk hn => ?_⟩)
    · have := h2.size
      simp at this
      omega
    · rw [h2.block k (by simp; omega) (fun e => hn (by rw [← e]; simp))]
      exact Below.heap_alloc W _ k hk
end


section
variable {W : World} {B : Nat} {E : TypeId} {v : Value} {vs : List Value}
/-- a slice that isn't nil, without elements. -/
theorem VRow.empty (W : World) (E : TypeId) (hB : B ≤ W.heap.size) : VRow (W.alloc (.cells #[] E)) B E (.slice (some ⟨W.heap.size, 0, none⟩) 0 0) [] :=
  ⟨⟨rfl, .inr ⟨W.heap.size, 0, #[], rfl, hB, heap_alloc_new W _, Nat.le_refl _, by simp [maxLen], rfl, rfl⟩⟩⟩
/-- bools of the call's own, as code() wants them. -/
theorem VRow.bl {P : SP} {bs : List Bool} (h : VRow W B 4 v (bs.map Value.bool)) (hn : bs.length ≤ 100000) (h1 : ∀ g, v.ownBlock = some g → g ∉ P.L ++ P.ex) (h2 : ∀ g, v.ownBlock = some g → ¬ Rw P.ws W g) : ∃ A cp, v = .slice A bs.length cp ∧ bs.length ≤ cp ∧ BL P W A bs := by
  rcases h.own.2 with ⟨rfl, h0⟩ | ⟨g, cap, cur, rfl, _, h3, h4, _⟩
  · rw [List.length_map] at h0
    exact ⟨none, 0, by rw [h0], by omega, hn, fun hp => by omega⟩
  · rw [List.length_map] at h4 ⊢
    have hl : Lies W g 4 cur := h3
    refine ⟨_, cap, rfl, h4, BL.new (n := bs.length) hl rfl (fun i hi => ?_) hn (h1 g rfl) (h2 g rfl)⟩
    have := h.own.cells (g := g) rfl i (.bool (bs.getD i false)) (by simp [List.getD, hi])
    rw [add_head4, hl.cell i] at this
    exact this
end

end Go.Proofs.Ythjbmaeoogophaa

/- Layer 8: what the law writes of its own leaves the state as it is. -/
namespace Go.Proofs.Ythjbmaeoogophaa
open Go.RowKit
set_option maxRecDepth 100000

section
variable {P : SP} {r : Nat} {s : SSt} {W W' : World} {K : List Nat}
/-- a block of a type that the state has not is apart from it. -/
theorem SI.apart_ty (h : SI P r s W) {g : Nat} {t : TypeId} {cs : Array Value} (l : Lies W g t cs) (h1 : t ≠ 101) (h2 : t ≠ 111) (h3 : t ≠ 34) (h4 : t ≠ 3) (h5 : t ≠ 31 ∨ ∀ j, j < P.nw → P.gp j = none) : g ∉ P.L ∧ ¬ Rw P.ws W g := by
  refine ⟨fun hm => ?_, fun hr => ?_⟩
  · rcases SP.L_mem.1 hm with rfl | rfl | ⟨j, hj, rfl⟩ | ⟨j, hj, hg⟩
    · exact l.unlike h.ar.head h1 rfl
    · exact l.unlike h.ar.body h2 rfl
    · obtain ⟨v, hl, _⟩ := h.wk j hj
      exact l.unlike hl h3 rfl
    · obtain ⟨v, hl, _⟩ := h.gt j g hj hg
      rcases h5 with h5 | h5
      · exact l.unlike hl h5 rfl
      · rw [h5 j hj] at hg
        cases hg
  · obtain ⟨_, cur, hl⟩ := h.rw hr
    exact l.unlike hl h4 rfl
theorem SI.bools (h : SI P r s W) {g : Nat} {cs : Array Value} (l : Lies W g 4 cs) : g ∉ P.L ∧ ¬ Rw P.ws W g := h.apart_ty l (by decide) (by decide) (by decide) (by decide) (.inl (by decide))
theorem SI.turns (h : SI P r s W) (t : Turns K W W') (hK : ∀ b, b ∈ K → b ∉ P.L ∧ ¬ Rw P.ws W b) : SI P r s W' :=
  h.keep (fun b hb hm => t.block b hb fun hk => by
    rcases hm with h1 | h1
    · exact (hK b hk).1 h1
    · exact (hK b hk).2 h1) t.size
/-- the cells that tell rows are as they were, and so are the rows. -/
theorem SI.rows_turns (hG : P.Good) (h : SI P r s W) (t : Turns K W W') (hK : ∀ b, b ∈ K → b ∉ P.L) {b : Nat} (q : Rw P.ws W' b) : Rw P.ws W b :=
  q.same fun x hx => t.cell (h.block_lt hx) fun hk => hK _ hk ((sm_ok P hG).cells x hx)
theorem Gm.Bx.turns (hG : P.Good) (h : SI P r s W) {b : Nat} {t : TypeId} {cs : Array Value} (x : (SM P).Bx W b t cs) (k : Turns K W W') (hK : ∀ c, c ∈ K → c ∉ P.L) (hb : b ∉ K) : (SM P).Bx W' b t cs :=
  ⟨x.l.turn k hb, x.out, fun q => x.row (SI.rows_turns hG h k hK q), x.ty, x.outX⟩
/-- a slice of bools of the law's own, behind what the machine wrote. -/
theorem VRow.fr {B : Nat} {v : Value} {vs : List Value} (h : SI P r s W) (x : VRow W B 4 v vs) (f : Fr P.L P.ws W W') : VRow W' B 4 v vs :=
  x.kept fun g hg => by
    obtain ⟨_, cur, hl⟩ := x.lies hg
    exact f.block g hl.lt (h.bools hl).1 (h.bools hl).2
/-- the state, behind a bool that was appended. -/
theorem SI.vrow {B : Nat} {v : Value} {vs : List Value} (h : SI P r s W) (x : VRow W B 4 v vs) (t : Turns v.ownBlock.toList W W') : SI P r s W' :=
  h.turns t fun b hb => by
    obtain ⟨_, cur, hl⟩ := x.lies (g := b) (by simpa using hb)
    exact h.bools hl
end

end Go.Proofs.Ythjbmaeoogophaa

/- Layer 8: StackBack's two first loops: what holds there. -/
namespace Go.Proofs.Ythjbmaeoogophaa
open Go.RowKit
set_option maxRecDepth 100000

/-- while the worker's hands are filled. -/
structure Fill (w0 : World) (P : SP) (bx B0 k m : Nat) (gt : Nat) (pv : Value) (W : World) : Prop where
  si : ∃ s, SI P 600 s W ∧ s.hs 0 = upto m ∧ s.l = List.replicate (k + 1) 0 ∧ s.wr 0 = false ∧ s.k = 0
  box : (SM P).Bx W bx 27 (stC P)
  puts : VRow W B0 4 pv ((List.replicate m false).map Value.bool)
  there : Lies W gt 4 #[]
  two : pv.ownBlock ≠ some gt
  le : m ≤ k
  be : Below B0 w0 W

/-- while the Pops are counted out. -/
structure There (w0 : World) (P : SP) (bx B0 k m0 j : Nat) (pv tv : Value) (W : World) : Prop where
  si : ∃ s, SI P 600 s W ∧ s.hs 0 = upto k ∧ s.l = List.replicate (k + 1) 0 ∧ s.wr 0 = false ∧ s.k = 0
  box : (SM P).Bx W bx 27 (stC P)
  puts : VRow W B0 4 pv ((List.replicate k false).map Value.bool)
  there : VRow W B0 4 tv ((List.replicate j true).map Value.bool)
  two : ∀ g, pv.ownBlock = some g → tv.ownBlock ≠ some g
  le : j ≤ m0
  few : m0 ≤ k
  be : Below B0 w0 W
theorem There.next {w0 : World} {P : SP} {bx B0 k m0 j : Nat} {pv tv tv' : Value} {W W' : World} (hG : P.Good) (hB0 : B0 ≤ w0.heap.size) (h : There w0 P bx B0 k m0 j pv tv W) (hj : j < m0) (x : VRow W' B0 4 tv' ((List.replicate j true).map Value.bool ++ [.bool true])) (t : Turns tv.ownBlock.toList W W') : There w0 P bx B0 k m0 (j + 1) pv tv' W' := by
  obtain ⟨s, hi, hs⟩ := h.si
  have hK : ∀ b, b ∈ tv.ownBlock.toList → b ∉ P.L ∧ ¬ Rw P.ws W b := fun b hb => by
    obtain ⟨_, cur, hl⟩ := h.there.lies (g := b) (by simpa using hb)
    exact hi.bools hl
  have hp : VRow W' B0 4 pv ((List.replicate k false).map Value.bool) := h.puts.turns t fun g hg hk => h.two g hg (by simpa using hk)
  refine ⟨⟨s, hi.vrow h.there t, hs⟩, Gm.Bx.turns hG hi h.box t (fun b hb => (hK b hb).1) (fun hb => ?_), hp, ?_, fun g hg e => ?_, by omega, h.few, h.be.trans (t.below (fun b hb => (h.there.lies (by simpa using hb)).1) (Nat.le_trans hB0 h.be.size))⟩
  · obtain ⟨_, cur, hl⟩ := h.there.lies (g := bx) (by simpa using hb)
    exact hl.unlike h.box.l (by decide) rfl
  · rw [List.replicate_succ', List.map_append]
    exact x
  · have hk := h.few
    have c1 := hp.own.cells (g := g) hg 0 (.bool false) (by rw [List.getElem?_map, List.getElem?_replicate, if_pos (by omega)]; rfl)
    have c2 := x.own.cells (g := g) e 0 (.bool true) (by
      cases j with
      | zero => rfl
      | succ j => simp [List.replicate_succ])
    rw [c1] at c2
    injection c2 with c2
    injection c2 with c2
    cases c2

end Go.Proofs.Ythjbmaeoogophaa

/- Slices of slices. (Parted out of Q18.) -/
namespace Go.Proofs.Ythjbmaeoogophaa
open Go.RowKit Go.ChangeShapes Go.WideShapes

/-- where the first k of a slice lie, and the others. -/
theorem slice_to {t : TypeId} {e : TypeId} (ht : Try.prog.underlying t = some (.slice e)) (h1 : (Try.prog.info? e).map (·.size) = some 1) (A : Option Addr) (n cp k : Nat) (hk : k ≤ cp) (W : World) :
    (Instr.sliceAt t (.slice A n cp) none (some (.int .i64 (k : Int))) none).run Try.prog W = .ok (.slice (if cp = 0 then A else A.map (·.add 0)) k cp) W := by
  obtain ⟨i, hi, hz⟩ := Option.map_eq_some_iff.1 h1
  simp [Instr.sliceAt, Instr.slice, run_underlying ht, Instr.sliceBounds, Instr.sliceBound, asIntOf, sizeOf, typeInfo, hi]
  intro h; omega
theorem slice_from {t : TypeId} {e : TypeId} (ht : Try.prog.underlying t = some (.slice e)) (h1 : (Try.prog.info? e).map (·.size) = some 1) (A : Option Addr) (n cp k : Nat) (hk : k ≤ n) (W : World) :
    (Instr.sliceAt t (.slice A n cp) (some (.int .i64 (k : Int))) none none).run Try.prog W = .ok (.slice (if cp = k then A else A.map (·.add k)) (n - k) (cp - k)) W := by
  obtain ⟨i, hi, hz⟩ := Option.map_eq_some_iff.1 h1
  simp [Instr.sliceAt, Instr.slice, run_underlying ht, Instr.sliceBounds, Instr.sliceBound, asIntOf, sizeOf, typeInfo, hi, hz]
  intro h; omega

theorem add_zero' (a : Addr) : a.add 0 = a := by simp [Addr.add]
section
variable {w : World} {A : Option Addr} {n k cp : Nat} {xs : List Int}
theorem Row.take (h : Row w .i64 A n xs) (hk : k ≤ n) (A' : Option Addr) (hA : A' = (if cp = 0 then A else A.map (·.add 0))) : Row w .i64 A' k (xs.take k) := by
  have e : A' = A := by
    rw [hA]
    split
    · rfl
    · cases A <;> simp [add_zero']
  subst e
  have hl := h.len
  refine ⟨by simp; omega, by have := h.most; omega, fun x hx => h.wf x (List.mem_of_mem_take hx), fun hn => ?_⟩
  obtain ⟨a, e, h1, h2⟩ := h.at_ (by omega)
  refine ⟨a, e, h1, fun i hi => ?_⟩
  rw [h2 i (by omega)]
  simp [List.getD, hi]
theorem Row.drop (h : Row w .i64 A n xs) (hk : k ≤ n) (hcp : n ≤ cp) (A' : Option Addr) (hA : A' = (if cp = k then A else A.map (·.add k))) : Row w .i64 A' (n - k) (xs.drop k) := by
  have hl := h.len
  refine ⟨by simp; omega, by have := h.most; omega, fun x hx => h.wf x (List.mem_of_mem_drop hx), fun hn => ?_⟩
  obtain ⟨a, e, h1, h2⟩ := h.at_ (by omega)
  subst e
  rw [if_neg (by omega)] at hA
  refine ⟨a.add k, by rw [hA]; rfl, by rw [add_block]; exact h1, fun i hi => ?_⟩
  rw [Go.Deep.add_add, h2 (k + i) (by omega)]
  simp [List.getD, List.getElem?_drop]
end

end Go.Proofs.Ythjbmaeoogophaa

/- Layer 8: StackBack's last loop: what holds there. -/
namespace Go.Proofs.Ythjbmaeoogophaa
open Go.RowKit Go.ChangeShapes Go.WideShapes
set_option maxRecDepth 100000

theorem made_bools (n : Nat) : madeCells #[.bool false] n = ((List.replicate n false).map Value.bool).toArray := by
  apply Array.ext
  · simp [madeCells]
  · intro i h1 h2
    simp [madeCells, Nat.mod_one]
theorem make_bools (n : Nat) (hn : n ≤ 1048576) (W : World) :
    (Instr.makeSlice 22 (.int .i64 (n : Int)) (.int .i64 (n : Int))).run Try.prog W = .ok (.slice (some ⟨W.heap.size, 0, none⟩) n n) (W.alloc (.cells ((List.replicate n false).map Value.bool).toArray 4)) := by
  obtain ⟨i, hi, hz, hs, hb⟩ := info_parts (P := Try.prog) (t := 4) (z := .bool false) (s := 1) (b := 1) (by kernel_rfl)
  have hr := run_make (P := Try.prog) W 22 4 i _ Try.underlying22 hi hz .i64 .i64 n n (by omega) (by omega) (by rw [hb]; omega) (by omega)
  simp only [Int.toNat_natCast, hs, Nat.mul_one] at hr
  rw [hr, ← made_bools]
  rfl
theorem VRow.made (W : World) {B : Nat} (n : Nat) (hn : n ≤ 1000) (hB : B ≤ W.heap.size) : VRow (W.alloc (.cells ((List.replicate n false).map Value.bool).toArray 4)) B 4 (.slice (some ⟨W.heap.size, 0, none⟩) n n) ((List.replicate n false).map Value.bool) :=
  ⟨⟨by simp, .inr ⟨W.heap.size, n, _, by simp, hB, heap_alloc_new W _, by simp, by simp only [maxLen]; omega, by simp, by simp⟩⟩⟩

theorem Fr.past {L : List Nat} {ws : List Addr} {a w w' : World} {t : Nat} (h : Fr L ws a w) (k : Fr (t :: L) ws w w') (ht : a.heap.size ≤ t) : Fr L ws a w' :=
  ⟨k.os.trans h.os, k.tape.trans h.tape, k.output.trans h.output, Nat.le_trans h.size k.size,
   fun b hb hn hr => (k.block b (Nat.lt_of_lt_of_le hb h.size) (fun hm => by
     rcases List.mem_cons.1 hm with h1 | h1
     · omega
     · exact hn h1) (fun q => hr (h.rows b hb q))).trans (h.block b hb hn hr),
   fun b hb q => h.rows b hb (k.rows b (Nat.lt_of_lt_of_le hb h.size) q)⟩

section
variable {P : SP} {r B : Nat} {s : SSt} {W W' : World} {v : Value} {xs : List Int} {K : List Nat}
theorem SI.down {P : SP} {s : SSt} {W : World} (hG : P.Good) {r r' : Nat} (h : SI P r s W) (k : r' ≤ r) : SI P r' s W := by
  obtain ⟨d, rfl⟩ : ∃ d, r = r' + d := ⟨r - r', by omega⟩
  clear k
  induction d with
  | zero => exact h
  | succ d ih => exact ih ((sm_ok P hG).less _ _ _ h)

/-- a list that the stack told: the machine never writes it. -/
structure LRow (P : SP) (B : Nat) (v : Value) (xs : List Int) (W : World) : Prop where
  row : IRow W B v xs
  out : ∀ g, v.ownBlock = some g → g ∉ P.L ∧ ¬ Rw P.ws W g
theorem LRow.fr (h : LRow P B v xs W) (f : Fr P.L P.ws W W') : LRow P B v xs W' :=
  ⟨h.row.kept fun g hg => f.block g (h.row.lt g hg).2 (h.out g hg).1 (h.out g hg).2, fun g hg => ⟨(h.out g hg).1, f.row (h.row.lt g hg).2 (h.out g hg).2⟩⟩
theorem LRow.turns (hG : P.Good) (hi : SI P r s W) (h : LRow P B v xs W) (t : Turns K W W') (hK : ∀ b, b ∈ K → b ∉ P.L) (hn : ∀ g, v.ownBlock = some g → g ∉ K) : LRow P B v xs W' :=
  ⟨h.row.kept fun g hg => t.block g (h.row.lt g hg).2 (hn g hg), fun g hg => ⟨(h.out g hg).1, fun q => (h.out g hg).2 (SI.rows_turns hG hi t hK q)⟩⟩
theorem LRow.new (hG : P.Good) (hi : SI P r s W) (h : IRow W' W.heap.size v xs) (b : Below W.heap.size W W') (hB : B ≤ W.heap.size) : LRow P B v xs W' := by
  have t : Turns [] W W' := Turns.of_below b (Nat.le_refl _)
  refine ⟨h.less hB, fun g hg => ⟨fun hm => ?_, fun q => ?_⟩⟩
  · have h1 := (h.lt g hg).1
    have h2 := ((sm_ok P hG).okw _ _ _ hi).lt g hm
    omega
  · have h1 := (h.lt g hg).1
    obtain ⟨_, cur, hl⟩ := hi.rw (SI.rows_turns hG hi t (by simp) q)
    have := hl.lt
    omega
theorem VRow.frE {E : TypeId} {vs : List Value} (h : SI P r s W) (x : VRow W B E v vs) (f : Fr P.L P.ws W W') (h1 : E ≠ 101) (h2 : E ≠ 111) (h3 : E ≠ 34) (h4 : E ≠ 3) (h5 : E ≠ 31 ∨ ∀ j, j < P.nw → P.gp j = none) : VRow W' B E v vs :=
  x.kept fun g hg => by
    obtain ⟨_, cur, hl⟩ := x.lies hg
    have := h.apart_ty hl h1 h2 h3 h4 h5
    exact f.block g hl.lt this.1 this.2
end

/-- StackBack's three tasks: their acts; what is in hand, and what lies on the stack, ahead of each. -/
def bsAt (k m0 : Nat) : Nat → List Bool
  | 0 => List.replicate k false
  | 1 => List.replicate m0 true
  | _ => List.replicate m0 false
def hsAt (k m0 : Nat) : Nat → List Int
  | 0 => upto k
  | 2 => (upto k).take m0
  | _ => []
def tsAt (k m0 : Nat) : Nat → List Int
  | 0 => []
  | 2 => (upto k).drop m0
  | _ => upto k
theorem back_step {k m0 j : Nat} (hm : m0 ≤ k) (hj : j < 3) : simA (bsAt k m0 j) (hsAt k m0 j) (tsAt k m0 j) = (hsAt k m0 (j + 1), tsAt k m0 (j + 1)) ∧ finds (bsAt k m0 j) (hsAt k m0 j) (tsAt k m0 j) := by
  obtain ⟨h0, h1, h2⟩ := back_all k m0 hm
  rcases (by omega : j = 0 ∨ j = 1 ∨ j = 2) with rfl | rfl | rfl
  · exact h0
  · exact h1
  · exact h2
theorem bsAt_len {k m0 j : Nat} (hm : m0 ≤ k) : (bsAt k m0 j).length ≤ k := by
  unfold bsAt
  split <;> simp <;> omega
def slAt (pv tv kv : Value) : Nat → Value
  | 0 => pv
  | 1 => tv
  | _ => kv

/-- in StackBack's last loop: j tasks are through. -/
structure Bk (w0 : World) (P : SP) (bx B0 k m0 g3 : Nat) (pv tv kv : Value) (j : Nat) (lv : Value) (W : World) : Prop where
  si : ∃ s, SI P (200 * (3 - j)) s W ∧ One k s.l (s.hs 0) (tsAt k m0 j) ∧ s.hs 0 = hsAt k m0 j ∧ s.wr 0 = false
  box : (SM P).Bx W bx 27 (stC P)
  sl : ∀ i, i < 3 → VRow W B0 4 (slAt pv tv kv i) ((bsAt k m0 i).map Value.bool)
  all : Lies W g3 22 #[pv, tv, kv]
  lists : ∃ vs, VRow W B0 31 lv vs ∧ vs.length = j ∧ ∀ i u, vs[i]? = some u → LRow P B0 u (tsAt k m0 (i + 1)) W
  le : j ≤ 3
  be : Below B0 w0 W

theorem Bk.zero {w0 : World} {P : SP} {bx B0 k m0 : Nat} {pv tv : Value} {W : World} (hG : P.Good) (h : There w0 P bx B0 k m0 m0 pv tv W) (hB : B0 ≤ W.heap.size) (hm : m0 ≤ 1000) :
    Bk w0 P bx B0 k m0 (W.heap.size + 1 + 1) pv tv (.slice (some ⟨W.heap.size, 0, none⟩) m0 m0) 0 (.slice (some ⟨W.heap.size + 1, 0, none⟩) 0 0) (((W.alloc (.cells ((List.replicate m0 false).map Value.bool).toArray 4)).alloc (.cells #[] 31)).alloc (.cells #[pv, tv, .slice (some ⟨W.heap.size, 0, none⟩) m0 m0] 22)) := by
  obtain ⟨s, hi, e1, e2, e3, e4⟩ := h.si
  obtain ⟨X1, hX1⟩ : ∃ X1, W.alloc (.cells ((List.replicate m0 false).map Value.bool).toArray 4) = X1 := ⟨_, rfl⟩
  have v0 : VRow X1 B0 4 (.slice (some ⟨W.heap.size, 0, none⟩) m0 m0) ((List.replicate m0 false).map Value.bool) := by rw [← hX1]; exact VRow.made W m0 hm hB
  have k1 : Turns [] W X1 := by rw [← hX1]; exact (Turns.refl _ _).alloc _
  have z1 : X1.heap.size = W.heap.size + 1 := by rw [← hX1]; simp
  rw [hX1]
  obtain ⟨X2, hX2⟩ : ∃ X2, X1.alloc (.cells #[] 31) = X2 := ⟨_, rfl⟩
  have v1 : VRow X2 B0 31 (.slice (some ⟨W.heap.size + 1, 0, none⟩) 0 0) [] := by rw [← hX2, ← z1]; exact VRow.empty X1 31 (by omega)
  have k2 : Turns [] X1 X2 := by rw [← hX2]; exact (Turns.refl _ _).alloc _
  have z2 : X2.heap.size = W.heap.size + 1 + 1 := by rw [← hX2]; simp [z1]
  rw [hX2]
  have k3 : Turns [] X2 (X2.alloc (.cells #[pv, tv, .slice (some ⟨W.heap.size, 0, none⟩) m0 m0] 22)) := (Turns.refl _ _).alloc _
  have kk := (k1.trans k2).trans k3
  refine ⟨⟨s, hi.turns kk (by simp), ?_, e1, e3⟩, Gm.Bx.turns hG hi h.box kk (by simp) (by simp), fun i hi3 => ?_, Lies.new_of _ _ z2, ⟨[], v1.turns k3 (by simp), rfl, fun i u hu => by simp at hu⟩, by omega, h.be.trans (kk.below (by simp) hB)⟩
  · rw [e2, e1]; exact one_start k
  · rcases (by omega : i = 0 ∨ i = 1 ∨ i = 2) with rfl | rfl | rfl
    · exact h.puts.turns kk (by simp)
    · exact h.there.turns kk (by simp)
    · exact v0.turns (k2.trans k3) (by simp)

theorem Bk.next {w0 : World} {P : SP} {bx B0 k m0 g3 j : Nat} {pv tv kv lv lv' u : Value} {W W9 W10 W11 : World} {vs : List Value} {s' : SSt} (hG : P.Good) (hgp : ∀ j, j < P.nw → P.gp j = none) (hPB : B0 ≤ P.B) (h : Bk w0 P bx B0 k m0 g3 pv tv kv j lv W) (hj : j < 3) (hB : B0 ≤ W.heap.size)
    (f : Fr P.L P.ws W W9) (hi : SI P (200 * (3 - (j + 1))) s' W9) (ho : One k s'.l (s'.hs 0) (tsAt k m0 (j + 1))) (hh : s'.hs 0 = hsAt k m0 (j + 1)) (hw : s'.wr 0 = false)
    (b : Below W9.heap.size W9 W10) (hr : IRow W10 W9.heap.size u (tsAt k m0 (j + 1)))
    (hvs : VRow W B0 31 lv vs ∧ vs.length = j ∧ ∀ i u, vs[i]? = some u → LRow P B0 u (tsAt k m0 (i + 1)) W)
    (x : VRow W11 B0 31 lv' (vs ++ [u])) (t : Turns lv.ownBlock.toList W10 W11) : Bk w0 P bx B0 k m0 g3 pv tv kv (j + 1) lv' W11 := by
  obtain ⟨s, hi0, _⟩ := h.si
  have ap : ∀ {X : World} {r : Nat} {sx : SSt} {g : Nat} {cs : Array Value}, SI P r sx X → Lies X g 31 cs → g ∉ P.L ∧ ¬ Rw P.ws X g := fun h1 h2 => h1.apart_ty h2 (by decide) (by decide) (by decide) (by decide) (.inr hgp)
  have ab : ∀ {X : World} {r : Nat} {sx : SSt} {g : Nat} {cs : Array Value}, SI P r sx X → Lies X g 22 cs → g ∉ P.L ∧ ¬ Rw P.ws X g := fun h1 h2 => h1.apart_ty h2 (by decide) (by decide) (by decide) (by decide) (.inl (by decide))
  have t10 : Turns [] W9 W10 := Turns.of_below b (Nat.le_refl _)
  have hl9 : VRow W9 B0 31 lv vs := hvs.1.frE hi0 f (by decide) (by decide) (by decide) (by decide) (.inr hgp)
  have hl10 := hl9.turns t10 (by simp)
  have hi10 := hi.turns t10 (by simp)
  have hK : ∀ b, b ∈ lv.ownBlock.toList → b ∉ P.L ∧ ¬ Rw P.ws W10 b := fun b hb => by
    obtain ⟨_, cur, hl⟩ := hl10.lies (g := b) (by simpa using hb)
    exact ap hi10 hl
  have nL : ∀ {g : Nat} {ty : TypeId} {cs : Array Value}, Lies W10 g ty cs → ty ≠ 31 → g ∉ lv.ownBlock.toList := fun hl hne hm => by
    obtain ⟨_, cur, hl2⟩ := hl10.lies (g := _) (by simpa using hm)
    exact hl.unlike hl2 hne rfl
  have f10 : Fr P.L P.ws W W10 := f.trans (((sm_ok P hG).okw _ _ _ hi).fr (sm_ok P hG) t10)
  have box10 := h.box.mv f10.mv
  have irow : ∀ {g : Nat} {v : Value} {xs : List Int}, IRow W10 B0 v xs → v.ownBlock = some g → g ∉ lv.ownBlock.toList := fun hr hg => by
    rcases hr.own.2 with ⟨rfl, _⟩ | ⟨g', cap, cur, rfl, _, hb, _⟩
    · cases hg
    · simp [Value.ownBlock] at hg
      subst hg
      exact nL (ty := 3) hb (by decide)
  refine ⟨⟨s', hi10.turns t hK, ho, hh, hw⟩, Gm.Bx.turns hG hi10 box10 t (fun b hb => (hK b hb).1) (nL box10.l (by decide)), fun i hi3 => ?_, ?_, ⟨vs ++ [u], x, by simp [hvs.2.1], fun i y hy => ?_⟩, by omega, ?_⟩
  · have h1 := (h.sl i hi3).fr hi0 f10
    refine h1.turns t fun g hg => ?_
    obtain ⟨_, cur, hl⟩ := h1.lies hg
    exact nL hl (by decide)
  · have h1 := f10.lies h.all (ab hi0 h.all).1 (ab hi0 h.all).2
    exact h1.turn t (nL h1 (by decide))
  · by_cases hy2 : i < vs.length
    · rw [List.getElem?_append_left hy2] at hy
      have h1 := (hvs.2.2 i y hy).fr f10
      exact h1.turns hG hi10 t (fun b hb => (hK b hb).1) (fun g hg => irow h1.row hg)
    · rw [List.getElem?_append_right (by omega)] at hy
      have hi0' : i = vs.length := by
        rcases Nat.lt_or_ge vs.length i with h1 | h1
        · rw [List.getElem?_eq_none (by simp; omega)] at hy; cases hy
        · omega
      rw [hi0', Nat.sub_self] at hy
      simp at hy
      subst hy
      have h1 : LRow P B0 u (tsAt k m0 (j + 1)) W10 := LRow.new hG hi hr b (Nat.le_trans hB f.size)
      rw [hi0', hvs.2.1]
      exact h1.turns hG hi10 t (fun b hb => (hK b hb).1) (fun g hg => irow h1.row hg)
  · have s9 := Nat.le_trans hB f.size
    exact ((h.be.trans ((hi0.below hG (fun b hb => .inl hb) f).mono hPB)).trans (b.mono s9)).trans (t.below (fun b hb => (hl10.lies (by simpa using hb)).1) (Nat.le_trans s9 b.size))

theorem ints_info8 : (Try.prog.info? 31).map (fun i => (i.zero, i.size, i.bytes)) = some (some (.slice none 0 0), 1, 24) := by kernel_rfl

end Go.Proofs.Ythjbmaeoogophaa

/- Slices of bools that are handed in. -/
namespace Go.Proofs.Ythjbmaeoogophaa
open Go.RowKit Go.ChangeShapes Go.WideShapes

/-- bools that are handed in, as they lie in the world. -/
structure BRow (w : World) (A : Option Addr) (bs : List Bool) : Prop where
  at_ : 0 < bs.length → ∃ a, A = some a ∧ a.block < w.heap.size ∧ ∀ i, i < bs.length → w.cell? (a.add i) = some (.bool (bs.getD i false))
theorem BRow.keep {w w' : World} {A : Option Addr} {bs : List Bool} (h : BRow w A bs) (k : Below w.heap.size w w') : BRow w' A bs :=
  ⟨fun hn => by
    obtain ⟨a, e, hb, hc⟩ := h.at_ hn
    exact ⟨a, e, Nat.lt_of_lt_of_le hb k.size, fun i hi => (k.cell (by rw [add_block]; exact hb)).trans (hc i hi)⟩⟩


theorem BRow.opened {H : Type} {enc : TypeId × Value → H} {P : Program} {w : World} {base : Nat} {held : Bool} {t e : TypeId} {a : Option Addr} {n c : Nat} {d : DataW H} {p : List MemPlace} (ht : P.underlying t = some (.slice e)) (he : P.underlying e = some .bool) (hc : P.cellsOf e = 1)
    (h : DataW.Trod enc P w base (fun _ => true) held t (.slice a n c) d p) : ∃ bs, bs.length = n ∧ BRow w a bs := by
  obtain ⟨fuel, hf⟩ := h
  rcases Go.Deep.open_bools ht he hc hf with ⟨hcs, _⟩ | ⟨x, l, cp, B, hcs, _, hl, hm, _, hcell⟩
  · simp [Value.cells] at hcs
    obtain ⟨rfl, rfl, rfl⟩ := hcs
    exact ⟨[], rfl, ⟨fun h => by simp at h⟩⟩
  · simp [Value.cells] at hcs
    obtain ⟨rfl, rfl, rfl⟩ := hcs
    refine ⟨(List.range n).map B, by simp, ⟨fun hn => ?_⟩⟩
    have hn : 0 < n := by simpa using hn
    have h0 := cell_block (hcell 0 (by omega))
    rw [add_block] at h0
    refine ⟨x, rfl, h0, fun i hi => ?_⟩
    have hi : i < n := by simpa using hi
    rw [hcell i (by omega)]
    simp [List.getD, hi]

/-- rows of bools that are handed in. -/
structure BGrid (w : World) (A : Option Addr) (bss : List (List Bool)) : Prop where
  at_ : 0 < bss.length → ∃ a, A = some a ∧ a.block < w.heap.size ∧ ∀ i, i < bss.length → ∃ A' c, w.cell? (a.add i) = some (.slice A' (bss.getD i []).length c) ∧ (bss.getD i []).length ≤ c ∧ (bss.getD i []).length ≤ maxLen ∧ BRow w A' (bss.getD i [])
theorem BGrid.keep {w w' : World} {A : Option Addr} {bss : List (List Bool)} (h : BGrid w A bss) (k : Below w.heap.size w w') : BGrid w' A bss :=
  ⟨fun hn => by
    obtain ⟨a, e, hb, hc⟩ := h.at_ hn
    refine ⟨a, e, Nat.lt_of_lt_of_le hb k.size, fun i hi => ?_⟩
    obtain ⟨A', c, h1, h2, h3, h4⟩ := hc i hi
    exact ⟨A', c, (k.cell (by rw [add_block]; exact hb)).trans h1, h2, h3, h4.keep k⟩⟩
theorem BGrid.opened {H : Type} {enc : TypeId × Value → H} {P : Program} {w : World} {base : Nat} {held : Bool} {t e q : TypeId} {a : Option Addr} {n c : Nat} {d : DataW H} {p : List MemPlace} (ht : P.underlying t = some (.slice e)) (he : P.underlying e = some (.slice q)) (hq : P.underlying q = some .bool) (ce : P.cellsOf e = 1) (cq : P.cellsOf q = 1)
    (h : DataW.Trod enc P w base (fun _ => true) held t (.slice a n c) d p) : ∃ bss, bss.length = n ∧ BGrid w a bss := by
  obtain ⟨fuel, hf⟩ := h
  rcases Go.Deep.open_bool_rows ht he hq ce cq hf with ⟨hcs, _⟩ | ⟨x, l, cp, A, L, C, B, hcs, _, hl, hm, _, hr⟩
  · simp [Value.cells] at hcs
    obtain ⟨rfl, rfl, rfl⟩ := hcs
    exact ⟨[], rfl, ⟨fun h => by simp at h⟩⟩
  · simp [Value.cells] at hcs
    obtain ⟨rfl, rfl, rfl⟩ := hcs
    refine ⟨(List.range n).map fun r => (List.range (L r)).map (B r), by simp, ⟨fun hn => ?_⟩⟩
    have hn : 0 < n := by simpa using hn
    have h0 := cell_block (hr 0 (by omega)).1
    rw [add_block] at h0
    refine ⟨x, rfl, h0, fun i hi => ?_⟩
    have hi : i < n := by simpa using hi
    obtain ⟨h1, h2, h3, h4, h5⟩ := hr i (by omega)
    have e1 : (((List.range n).map fun r => (List.range (L r)).map (B r)).getD i []) = (List.range (L i)).map (B i) := by simp [List.getD, hi]
    rw [e1]
    refine ⟨A i, C i, by simpa using h1, by simpa using h2, by simp; omega, ⟨fun hp => ?_⟩⟩
    have hp : 0 < L i := by simpa using hp
    cases hA : A i with
    | none => have := h4 hA; omega
    | some a' =>
      obtain ⟨_, hc⟩ := h5 a' hA
      have h6 := cell_block (hc 0 (by omega))
      rw [add_block] at h6
      refine ⟨a', rfl, h6, fun k hk => ?_⟩
      have hk : k < L i := by simpa using hk
      rw [hc k (by omega)]
      simp [List.getD, hk]

end Go.Proofs.Ythjbmaeoogophaa

/- Layer 8: many workers, made one by one; their tasks. -/
namespace Go.Proofs.Ythjbmaeoogophaa
open Go.RowKit Go.ChangeShapes Go.WideShapes
set_option maxRecDepth 100000

section
variable {P : SP} {x y : More} {n : Nat}
theorem SP.up_up (P : SP) (y x : More) : (P.up y).up x = P.up ⟨y.nw + x.nw, fun i => if i < y.nw then y.wb i else x.wb (i - y.nw), fun i => if i < y.nw then y.gp i else x.gp (i - y.nw), y.ex ++ x.ex⟩ := by
  have e : ∀ {α : Type} (f g h : Nat → α), (fun i => if i < P.nw + y.nw then (if i < P.nw then f i else g (i - P.nw)) else h (i - (P.nw + y.nw))) = fun i => if i < P.nw then f i else if i - P.nw < y.nw then g (i - P.nw) else h (i - P.nw - y.nw) := fun f g h => by
    funext i
    by_cases h1 : i < P.nw
    · rw [if_pos (by omega), if_pos h1, if_pos h1]
    · rw [if_neg h1, if_neg h1]
      by_cases h2 : i < P.nw + y.nw
      · rw [if_pos h2, if_pos (by omega)]
      · rw [if_neg h2, if_neg (by omega), Nat.sub_sub]
  show ({ P with nw := P.nw + y.nw + x.nw, wb := _, gp := _, ex := P.ex ++ y.ex ++ x.ex } : SP) = { P with nw := P.nw + (y.nw + x.nw), wb := _, gp := _, ex := P.ex ++ (y.ex ++ x.ex) }
  congr 1
  · omega
  · exact e P.wb y.wb x.wb
  · exact e P.gp y.gp x.gp
  · exact List.append_assoc _ _ _
theorem SP.up_zero (P : SP) : P.up ⟨0, fun i => P.wb (P.nw + i), fun i => P.gp (P.nw + i), []⟩ = P := by
  have e : ∀ {α : Type} (f : Nat → α), (fun i => if i < P.nw then f i else f (P.nw + (i - P.nw))) = f := fun f => by
    funext i
    by_cases h : i < P.nw
    · rw [if_pos h]
    · rw [if_neg h, show P.nw + (i - P.nw) = i by omega]
  show ({ P with nw := P.nw + 0, wb := _, gp := _, ex := P.ex ++ [] } : SP) = P
  conv => rhs; rw [show P = { P with nw := P.nw, wb := P.wb, gp := P.gp, ex := P.ex } from rfl]
  congr 1
  · exact e P.wb
  · exact e P.gp
  · exact List.append_nil _
theorem SP.L_up {b : Nat} (h : b ∈ P.L) : b ∈ (P.up x).L := by
  rcases SP.L_mem.1 h with h | h | ⟨j, hj, h⟩ | ⟨j, hj, h⟩
  · exact SP.L_mem.2 (.inl h)
  · exact SP.L_mem.2 (.inr (.inl h))
  · exact SP.L_mem.2 (.inr (.inr (.inl ⟨j, SP.up_nw hj, by rw [SP.up_wb hj]; exact h⟩)))
  · exact SP.L_mem.2 (.inr (.inr (.inr ⟨j, SP.up_nw hj, by rw [SP.up_gp hj]; exact h⟩)))
theorem SP.ws_up {a : Addr} (h : a ∈ P.ws) : a ∈ (P.up x).ws := by
  rcases SP.ws_mem.1 h with ⟨j, hj, rfl⟩ | ⟨j, g, hj, hg, rfl⟩
  · exact SP.ws_mem.2 (.inl ⟨j, SP.up_nw hj, by rw [SP.up_wb hj]⟩)
  · exact SP.ws_mem.2 (.inr ⟨j, g, SP.up_nw hj, by rw [SP.up_gp hj]; exact hg, rfl⟩)
theorem SP.rw_up {w : World} {b : Nat} (q : Rw P.ws w b) : Rw (P.up x).ws w b := by
  obtain ⟨a, ha, o, m, c, e⟩ := q
  exact ⟨a, SP.ws_up ha, o, m, c, e⟩
variable {W W' : World} {r B : Nat} {s : SSt} {K : List Nat}
theorem Mv.up_fr (f : Fr P.L P.ws W W') (hx : x.From W'.heap.size) : Mv B ((P.up x).L ++ (P.up x).ex) (P.up x).ws W W' :=
  ⟨f.os, f.tape, f.output, f.size, fun b hb hn hr => .inl (f.block b hb (fun h => hn (List.mem_append.2 (.inl (SP.L_up h)))) (fun q => hr (SP.rw_up q))), fun b hb q => SP.rw_up (f.rows b hb (SP.up_rw hx (Nat.le_refl _) q))⟩
theorem Mv.up_turns (hG : P.Good) (hi : SI P r s W) (t : Turns K W W') (hK : ∀ b, b ∈ K → IsTask P.B W b ∧ b ∉ P.L) (hx : x.From W'.heap.size) : Mv P.B ((P.up x).L ++ (P.up x).ex) (P.up x).ws W W' :=
  ⟨t.os, t.tape, t.output, t.size, fun b hb _ _ => by
    by_cases hm : b ∈ K
    · exact .inr (hK b hm).1
    · exact .inl (t.block b hb hm), fun b _ q => SP.rw_up (SI.rows_turns hG hi t (fun b hb => (hK b hb).2) (SP.up_rw hx (Nat.le_refl _) q))⟩

/-- one worker more. -/
def SP.one (P : SP) (b : Nat) (ex : List Nat) : SP := P.up ⟨1, fun _ => b, fun _ => none, ex⟩
variable {ex : List Nat}
theorem SP.one_nw {b : Nat} : (P.one b ex).nw = P.nw + 1 := rfl
theorem SP.one_old {b j : Nat} (hj : j < P.nw) : (P.one b ex).wb j = P.wb j := SP.up_wb hj
theorem SP.one_new {b : Nat} : (P.one b ex).wb P.nw = b := if_neg (Nat.lt_irrefl _)
theorem SP.one_gp {b : Nat} (h : ∀ j, j < P.nw → P.gp j = none) : ∀ j, j < (P.one b ex).nw → (P.one b ex).gp j = none := fun j _ => by
  by_cases hl : j < P.nw
  · exact (SP.up_gp hl).trans (h j hl)
  · exact if_neg hl
theorem SP.one_ws {b : Nat} {a : Addr} (h : a ∈ (P.one b ex).ws) : a ∈ P.ws ∨ a = ⟨b, 0, none⟩ := by
  rcases SP.ws_mem.1 h with ⟨j, hj, rfl⟩ | ⟨j, g, hj, hg, rfl⟩
  · by_cases hl : j < P.nw
    · rw [SP.one_old hl]
      exact .inl (SP.ws_mem.2 (.inl ⟨j, hl, rfl⟩))
    · have hj : j < P.nw + 1 := hj
      obtain rfl : j = P.nw := by omega
      rw [SP.one_new]
      exact .inr rfl
  · by_cases hl : j < P.nw
    · have e : (P.one b ex).gp j = P.gp j := SP.up_gp hl
      rw [e] at hg
      exact .inl (SP.ws_mem.2 (.inr ⟨j, g, hl, hg, rfl⟩))
    · have e : (P.one b ex).gp j = none := if_neg hl
      rw [e] at hg
      cases hg
theorem SP.Good.one {b : Nat} (h : P.Good) (hgp : ∀ j, j < P.nw → P.gp j = none) (h1 : P.B ≤ b) (h2 : b ≠ P.p) (h3 : b ≠ P.c) (h4 : ∀ j, j < P.nw → P.wb j ≠ b) : (P.one b ex).Good := by
  have hn : ∀ j, j < (P.one b ex).nw → j < P.nw ∨ j = P.nw := fun j hj => by have hj : j < P.nw + 1 := hj; omega
  have hg := SP.one_gp (b := b) (ex := ex) hgp
  refine ⟨⟨h.low.1, h.low.2.1, fun j hj => ?_, fun j g hj e => (by rw [hg j hj] at e; cases e)⟩, fun i j hi hj e => ?_, fun i j g hi _ e => (by rw [hg i hi] at e; cases e), ⟨h.sep.1, fun j hj => ?_, fun j g hj e => (by rw [hg j hj] at e; cases e), fun i j g _ hj e => (by rw [hg j hj] at e; cases e)⟩, h.few⟩
  · rcases hn j hj with hl | rfl
    · rw [SP.one_old hl]; exact h.low.2.2.1 j hl
    · rw [SP.one_new]; exact h1
  · rcases hn i hi with hl | rfl <;> rcases hn j hj with hk | rfl
    · rw [SP.one_old hl, SP.one_old hk] at e; exact h.inj i j hl hk e
    · rw [SP.one_old hl, SP.one_new] at e; exact absurd e (h4 i hl)
    · rw [SP.one_old hk, SP.one_new] at e; exact absurd e.symm (h4 j hk)
    · rfl
  · rcases hn j hj with hl | rfl
    · rw [SP.one_old hl]; exact h.sep.2.1 j hl
    · rw [SP.one_new]; exact ⟨h2, h3⟩
theorem SI.one_more {b : Nat} {K1 : List Nat} {v : Value} {hs : List Int} {bu ba wr : Bool} (hgp : ∀ j, j < P.nw → P.gp j = none) (h : SI P r s W) (hG : P.Good) (t : Turns K1 W W') (hK1 : ∀ g, g ∈ K1 → g ∉ P.L ∧ ¬ Rw P.ws W g) (hexl : ∀ g, g ∈ ex → g < W'.heap.size) (hl : Lies W' b 34 #[v, .pointer none, .bool bu, .bool ba, .bool wr]) (ho : W'.ownsRow P.B 3 1 v hs.length (intVs hs)) (hnew : ∀ g, v.ownBlock = some g → W.heap.size ≤ g) (hr : ∀ i, i ∈ hs → 0 ≤ i ∧ i < P.n) (hz : hs.length + r ≤ 5000 ∧ (s.gt P.nw).length + r ≤ 5000) :
    SI (P.one b ex) r { s with hs := updF s.hs P.nw hs, bu := updF s.bu P.nw bu, ba := updF s.ba P.nw ba, wr := updF s.wr P.nw wr } W' := by
  have hn : ∀ j, j < (P.one b ex).nw → j < P.nw ∨ j = P.nw := fun j hj => by have hj : j < P.nw + 1 := hj; omega
  have hg := SP.one_gp (b := b) (ex := ex) hgp
  have h' := h.turns t hK1
  have wsK : ∀ {a : Addr}, a ∈ P.ws → a.block ∉ K1 := fun ha hm => (hK1 _ hm).1 ((sm_ok P hG).cells _ ha)
  have cn : W'.cell? ⟨b, 0, none⟩ = some v := hl.cell 0
  have old : ∀ {a : Addr} {g o m c : Nat}, a ∈ P.ws → W'.cell? a = some (.slice (some ⟨g, o, none⟩) m c) → g < W.heap.size := fun ha e => by
    have e2 := (t.cell (h.block_lt ha) (wsK ha)).symm.trans e
    obtain ⟨_, cur, hl2⟩ := h.rw ⟨_, ha, _, _, _, e2⟩
    exact hl2.lt
  have new : ∀ {g o m c : Nat}, W'.cell? ⟨b, 0, none⟩ = some (.slice (some ⟨g, o, none⟩) m c) → W.heap.size ≤ g := fun e => by
    rw [cn] at e
    injection e with e
    exact hnew _ (by rw [e]; rfl)
  refine ⟨h'.ar, h.room, h.ok, fun j hj => ?_, fun j g hj e => (by rw [hg j hj] at e; cases e), fun j hj i hi => ?_, fun j hj => ?_, fun a a' ha ha' hne g o m c o' m' c' e e' => ?_, fun b' hb' => (List.mem_append.1 (show b' ∈ P.ex ++ ex from hb')).elim (h'.exl b') (hexl b')⟩
  · rcases hn j hj with hlt | rfl
    · obtain ⟨u, h1, h2⟩ := h'.wk j hlt
      have hj' : j ≠ P.nw := by omega
      refine ⟨u, ?_, ?_⟩
      · have e2 : (P.one b ex).gotV j = P.gotV j := by unfold SP.gotV; rw [hg j hj, hgp j hlt]
        rw [SP.one_old hlt, e2]
        simp only [updF_ne _ _ hj']
        exact h1
      · simp only [updF_ne _ _ hj']
        exact h2
    · refine ⟨v, ?_, ?_⟩
      · have e2 : (P.one b ex).gotV P.nw = .pointer none := by unfold SP.gotV; rw [hg P.nw hj]
        rw [SP.one_new, e2]
        simp only [updF_same]
        exact hl
      · simp only [updF_same]
        exact ho
  · rcases hn j hj with hlt | rfl
    · have hj' : j ≠ P.nw := by omega
      simp only [updF_ne _ _ hj'] at hi
      exact h.hb j hlt i hi
    · simp only [updF_same] at hi
      exact hr i hi
  · rcases hn j hj with hlt | rfl
    · have hj' : j ≠ P.nw := by omega
      simp only [updF_ne _ _ hj']
      exact h.size j hlt
    · simp only [updF_same]
      exact hz
  · rcases SP.one_ws ha with h1 | rfl <;> rcases SP.one_ws ha' with h2 | rfl
    · exact h'.apart a a' h1 h2 hne g o m c o' m' c' e e'
    · have := old h1 e
      have := new e'
      omega
    · have := old h2 e'
      have := new e
      omega
    · exact hne rfl

theorem Gm.Bx.one {b g : Nat} {K1 : List Nat} {t : TypeId} {cs : Array Value} {v : Value} (hi : SI P r s W) (hG : P.Good) (h : (SM P).Bx W g t cs) (hb : W.heap.size ≤ b) (hexn : ∀ b, b ∈ ex → W.heap.size ≤ b) (k1 : Turns K1 W W') (hK1 : ∀ g, g ∈ K1 → g ∉ P.L) (hgK : g ∉ K1) (hv : W'.cell? ⟨b, 0, none⟩ = some v) (hnew : ∀ g, v.ownBlock = some g → W.heap.size ≤ g) : (SM (P.one b ex)).Bx W' g t cs := by
  have hlt := h.l.lt
  refine ⟨h.l.turn k1 hgK, fun hm => ?_, fun q => ?_, h.ty, fun hm => (List.mem_append.1 (show g ∈ P.ex ++ ex from hm)).elim h.outX (fun h1 => by have := hexn g h1; omega)⟩
  · rcases SP.up_L (n := W.heap.size) hm ⟨fun i _ => ⟨hb, fun g hg => by cases hg⟩, hexn⟩ with h1 | h1
    · exact h.out h1
    · omega
  · obtain ⟨a, ha, o, m, c, e⟩ := q
    rcases SP.one_ws ha with h1 | rfl
    · exact h.row ⟨a, h1, o, m, c, (k1.cell (hi.block_lt h1) (fun hm => hK1 _ hm ((sm_ok P hG).cells _ h1))).symm.trans e⟩
    · rw [hv] at e
      injection e with e
      have := hnew g (by rw [e]; rfl)
      omega
/-- a row of bools that was handed in. -/
theorem BL.of_row {w0 : World} {A : Option Addr} {bs : List Bool} (hG : P.Good) (hi : SI P r s W) (hB : w0.heap.size ≤ P.B) (h0 : BRow w0 A bs) (h : BRow W A bs) (hex : ∀ b, b ∈ P.ex → P.B ≤ b) (hm : bs.length ≤ 100000) : BL P W A bs :=
  ⟨hm, fun hp => by
    obtain ⟨a, e, hb, _⟩ := h0.at_ hp
    obtain ⟨a', e', hb', hc⟩ := h.at_ hp
    rw [e] at e'
    injection e' with e'
    subst e'
    have okw := (sm_ok P hG).okw _ _ _ hi
    refine ⟨a, e, hb', fun hm => ?_, fun q => ?_, fun q => ?_, hc⟩
    · rcases List.mem_append.1 hm with h1 | h1
      · have := (sm_ok P hG).low _ h1
        have : P.B ≤ a.block := this
        omega
      · have := hex _ h1; omega
    · have := (okw.row _ q).1
      have : P.B ≤ a.block := this
      omega
    · have := q.1
      omega⟩

/-- tasks made so far, one a worker. -/
structure Mk (P : SP) (m r : Nat) (ts : Nat → Nat) (qs : Nat → SPr) (s : SSt) (W : World) : Prop where
  good : P.Good
  gp : ∀ j, j < P.nw → P.gp j = none
  ex : ∀ b, b ∈ P.ex → P.B ≤ b
  si : SI P r s W
  tk : ∀ j, j < P.nw → P.B ≤ ts j ∧ ∃ v, Lies W (ts j) 89 #[v, .int .i64 0] ∧ ∀ x : More, (P.up x).Good → x.From W.heap.size → (SM (P.up x)).Code m (qs j) v W
  inj : ∀ i j, i < P.nw → j < P.nw → ts i = ts j → i = j
  gt : ∀ j, (s.gt j).length = 0

theorem Gm.Code.at_P {m : Nat} {q : SPr} {v : Value} {W : World} (hG : P.Good) (h : ∀ x : More, (P.up x).Good → x.From W.heap.size → (SM (P.up x)).Code m q v W) : (SM P).Code m q v W := by
  have := h ⟨0, fun i => P.wb (P.nw + i), fun i => P.gp (P.nw + i), []⟩ (by rw [SP.up_zero]; exact hG) ⟨fun i hi => absurd hi (Nat.not_lt_zero _), fun b hb => (by cases hb)⟩
  rw [SP.up_zero] at this
  exact this

/-- a worker, its code and its task are made. -/
theorem Mk.next {m b : Nat} {K1 : List Nat} {ts : Nat → Nat} {qs : Nat → SPr} {q : SPr} {s1 s2 : SSt} {v cv : Value} {W W1 W2 W3 W4 : World} {tk : Nat} (h : Mk P m r ts qs s W) (hb : W.heap.size ≤ b) (hexn : ∀ g, g ∈ ex → W.heap.size ≤ g)
    (k1 : Turns K1 W W1) (hK1 : ∀ g, g ∈ K1 → g ∈ P.ex ∧ ∃ cs, Lies W g 30 cs) (hG1 : (P.one b ex).Good) (hi1 : SI (P.one b ex) r s1 W1) (hv : W1.cell? ⟨b, 0, none⟩ = some v) (hnew : ∀ g, v.ownBlock = some g → W.heap.size ≤ g)
    (f2 : Fr (P.one b ex).L (P.one b ex).ws W1 W2) (hi2 : SI (P.one b ex) r s2 W2) (hc2 : ∀ x : More, ((P.one b ex).up x).Good → x.From W2.heap.size → (SM ((P.one b ex).up x)).Code m q cv W2) (hgt : ∀ j, (s2.gt j).length = 0)
    (k3 : Turns [] W2 W3) (l3 : Lies W3 tk 89 #[cv, .int .i64 0]) (ht3 : W2.heap.size ≤ tk) (k4 : Turns K W3 W4) (hK : ∀ g, g ∈ K → P.B ≤ g ∧ ∃ cs, Lies W3 g 35 cs) :
    Mk (P.one b ex) m r (updF ts P.nw tk) (updF qs P.nw q) s2 W4 := by
  have hKL : ∀ g, g ∈ K1 → g ∉ P.L ∧ ¬ Rw P.ws W g := fun g hg => by
    obtain ⟨_, cs, hl⟩ := hK1 g hg
    exact h.si.apart_ty hl (by decide) (by decide) (by decide) (by decide) (.inl (by decide))
  have tsK : ∀ {g : Nat} {cs : Array Value}, Lies W g 89 cs → g ∉ K1 := fun hl hm => by
    obtain ⟨_, cs, hl2⟩ := hK1 _ hm
    exact hl.unlike hl2 (by decide) rfl
  have hi3 := hi2.turns k3 (by simp)
  have hK4 : ∀ g, g ∈ K → IsTask (P.one b ex).B W3 g ∧ g ∉ (P.one b ex).L ∧ ¬ Rw (P.one b ex).ws W3 g := fun g hg => by
    obtain ⟨h1, cs, hl⟩ := hK g hg
    have ha := hi3.apart_ty hl (by decide) (by decide) (by decide) (by decide) (.inl (by decide))
    exact ⟨⟨h1, _, cs, by decide, hl⟩, ha⟩
  have hi4 := hi3.turns k4 fun g hg => (hK4 g hg).2
  have sz1 := k1.size
  have sz2 := f2.size
  have sz3 := k3.size
  have sz4 := k4.size
  have tkne : ∀ {g : Nat} {t : TypeId} {cs : Array Value}, Lies W3 g t cs → t ≠ 35 → g ∉ K := fun hl hne hm => by
    obtain ⟨_, cs, hl2⟩ := hK _ hm
    exact hl.unlike hl2 hne rfl
  have m24 : ∀ x : More, x.From W4.heap.size → Mv (P.one b ex).B (((P.one b ex).up x).L ++ ((P.one b ex).up x).ex) ((P.one b ex).up x).ws W2 W4 := fun x hx =>
    (Mv.up_turns hG1 hi2 k3 (by simp) ⟨fun i hi => ⟨Nat.le_trans sz4 (hx.1 i hi).1, fun g hg => Nat.le_trans sz4 ((hx.1 i hi).2 g hg)⟩, fun g hg => Nat.le_trans sz4 (hx.2 g hg)⟩).trans (Mv.up_turns hG1 hi3 k4 (fun g hg => ⟨(hK4 g hg).1, (hK4 g hg).2.1⟩) hx)
  have from_le : ∀ {x : More} {n n' : Nat}, x.From n → n' ≤ n → x.From n' := fun hx hn => ⟨fun i hi => ⟨Nat.le_trans hn (hx.1 i hi).1, fun g hg => Nat.le_trans hn ((hx.1 i hi).2 g hg)⟩, fun g hg => Nat.le_trans hn (hx.2 g hg)⟩
  have m01 : ∀ x : More, x.From W4.heap.size → Mv (P.one b ex).B (((P.one b ex).up x).L ++ ((P.one b ex).up x).ex) ((P.one b ex).up x).ws W W1 := fun x hx =>
    ⟨k1.os, k1.tape, k1.output, k1.size, fun g hg hn _ => .inl (k1.block g hg (fun hm => hn (List.mem_append.2 (.inr (List.mem_append.2 (.inl (List.mem_append.2 (.inl (hK1 g hm).1)))))))), fun g hg q => by
      obtain ⟨a, ha, o, m', c, e⟩ := SP.up_rw (from_le hx (show W1.heap.size ≤ W4.heap.size by omega)) (Nat.le_refl _) q
      rcases SP.one_ws ha with h1 | rfl
      · have e2 := (k1.cell (h.si.block_lt h1) (fun hm => (hKL _ hm).1 ((sm_ok P h.good).cells _ h1))).symm.trans e
        exact SP.rw_up ⟨a, ha, o, m', c, e2⟩
      · rw [hv] at e
        injection e with e
        have := hnew g (by rw [e]; rfl)
        omega⟩
  have mv : ∀ x : More, x.From W4.heap.size → Mv (P.one b ex).B (((P.one b ex).up x).L ++ ((P.one b ex).up x).ex) ((P.one b ex).up x).ws W W4 := fun x hx =>
    ((m01 x hx).trans (Mv.up_fr f2 (from_le hx (by omega)))).trans (m24 x hx)
  have told : ∀ j, j < P.nw → ∃ v, Lies W3 (ts j) 89 #[v, .int .i64 0] := fun j hj => by
    obtain ⟨_, u, hl, _⟩ := h.tk j hj
    have l1 := hl.turn k1 (tsK hl)
    have ha := hi1.apart_ty l1 (by decide) (by decide) (by decide) (by decide) (.inl (by decide))
    exact ⟨u, (f2.lies l1 ha.1 ha.2).turn k3 (by simp)⟩
  refine ⟨hG1, SP.one_gp h.gp, fun g hg => (List.mem_append.1 (show g ∈ P.ex ++ ex from hg)).elim (h.ex g) (fun h1 => by have := hexn g h1; have : P.B ≤ W.heap.size := ((sm_ok P h.good).okw _ _ _ h.si).base; show P.B ≤ g; omega), hi4, fun j hj => ?_, fun i j hi hj e => ?_, hgt⟩
  · have hj : j < P.nw + 1 := hj
    rcases (by omega : j < P.nw ∨ j = P.nw) with hlt | rfl
    · rw [updF_ne _ _ (by omega), updF_ne _ _ (by omega)]
      obtain ⟨h1, u, hl, hc⟩ := h.tk j hlt
      have l1 := hl.turn k1 (tsK hl)
      have ha := hi1.apart_ty l1 (by decide) (by decide) (by decide) (by decide) (.inl (by decide))
      have l3' := (f2.lies l1 ha.1 ha.2).turn k3 (by simp)
      refine ⟨h1, u, l3'.turn k4 (tkne l3' (by decide)), fun x hg hx => ?_⟩
      have hmv := mv x hx
      have hg' := hg
      unfold SP.one at hg' hmv ⊢
      rw [SP.up_up] at hg' hmv ⊢
      refine (hc _ hg' ⟨fun i hi => ?_, fun g hg => (List.mem_append.1 hg).elim (hexn g) (fun h1 => by have := hx.2 g h1; omega)⟩).mv hmv
      show W.heap.size ≤ (if i < 1 then b else x.wb (i - 1)) ∧ ∀ g, (if i < 1 then none else x.gp (i - 1)) = some g → W.heap.size ≤ g
      by_cases h0 : i < 1
      · rw [if_pos h0, if_pos h0]
        exact ⟨hb, fun g hg => by cases hg⟩
      · have hi : i < 1 + x.nw := hi
        rw [if_neg h0, if_neg h0]
        have := hx.1 (i - 1) (by omega)
        exact ⟨by omega, fun g hg => by have := this.2 g hg; omega⟩
    · rw [updF_same, updF_same]
      have hB : (P.one b ex).B ≤ tk := by
        have := ((sm_ok _ hG1).okw _ _ _ hi2).base
        have : (P.one b ex).B ≤ W2.heap.size := this
        omega
      exact ⟨hB, cv, l3.turn k4 (tkne l3 (by decide)), fun x hg hx => (hc2 x hg (from_le hx (by omega))).mv (m24 x hx)⟩
  · have hi : i < P.nw + 1 := hi
    have hj : j < P.nw + 1 := hj
    have low : ∀ j, j < P.nw → ts j < W.heap.size := fun j hj => by obtain ⟨_, u, hl, _⟩ := h.tk j hj; exact hl.lt
    rcases (by omega : i < P.nw ∨ i = P.nw) with hi1 | rfl <;> rcases (by omega : j < P.nw ∨ j = P.nw) with hj1 | rfl
    · rw [updF_ne _ _ (by omega), updF_ne _ _ (by omega)] at e
      exact h.inj i j hi1 hj1 e
    · rw [updF_ne _ _ (by omega), updF_same] at e
      have := low i hi1
      omega
    · rw [updF_same, updF_ne _ _ (by omega)] at e
      have := low j hj1
      omega
    · rfl

theorem Mk.task {m : Nat} {ts : Nat → Nat} {qs : Nat → SPr} (h : Mk P m r ts qs s W) {j : Nat} (hj : j < P.nw) : (SM P).Task m (qs j) 0 (ts j) W := by
  obtain ⟨h1, v, hl, hc⟩ := h.tk j hj
  have ha := h.si.apart_ty hl (by decide) (by decide) (by decide) (by decide) (.inl (by decide))
  exact ⟨⟨v, hl, Gm.Code.at_P h.good hc⟩, ha.1, h1, ha.2⟩
end

end Go.Proofs.Ythjbmaeoogophaa

/- Layer 8: a task that alone is picked is soon through. -/
namespace Go.Proofs.Ythjbmaeoogophaa
open Go.RowKit
set_option maxRecDepth 100000

/-- how many steps a task alone has at most. -/
def mu (q : SPr) (l : List Int) : Nat := (match q.m with
  | .done => 0
  | .popR => 3
  | .popN o => if getA l 0 = o then 2 else 5
  | .popT o _ => if getA l 0 = o then 1 else 4
  | .pushR _ => 3
  | .pushS _ o => if getA l 0 = o then 2 else 5
  | .pushT _ o => if getA l 0 = o then 1 else 4) + 3 * q.l.length
theorem mu_le (q : SPr) (l : List Int) : mu q l ≤ 5 + 3 * q.l.length := by
  obtain ⟨j, m, k⟩ := q
  cases m <;> simp only [mu] <;> first | omega | (split <;> omega)
/-- what an act is about: things there may be. -/
def qok (q : SPr) : Prop := match q.m with
  | .popN o => hIx o ≠ -1
  | .popT o _ => hIx o ≠ -1
  | .pushR i => 0 ≤ i
  | .pushS i _ => 0 ≤ i
  | .pushT i _ => 0 ≤ i
  | _ => True

theorem startS_facts (j : Nat) : ∀ (l : List Bool) (s : SSt), (startS j l s).1.j = j ∧ (startS j l s).2.l = s.l ∧ (startS j l s).2.hs = s.hs ∧ (startS j l s).2.gt = s.gt ∧ (startS j l s).2.wr = s.wr ∧ (startS j l s).1.l.length ≤ l.length ∧ (∀ L, mu (startS j l s).1 L ≤ 3 * l.length) ∧ ((∀ i, i ∈ s.hs j → 0 ≤ i) → qok (startS j l s).1)
  | [], s => ⟨rfl, rfl, rfl, rfl, rfl, Nat.le_refl _, fun _ => Nat.le_refl _, fun _ => trivial⟩
  | true :: l, s => ⟨rfl, rfl, rfl, rfl, rfl, by simp [startS], fun L => by simp [startS, mu]; omega, fun _ => trivial⟩
  | false :: l, s => by
    show (match (s.hs j).getLast? with | none => startS j l s | some i => (⟨j, .pushR i, l⟩, s)).1.j = j ∧ (match (s.hs j).getLast? with | none => startS j l s | some i => (⟨j, .pushR i, l⟩, s)).2.l = s.l ∧ (match (s.hs j).getLast? with | none => startS j l s | some i => (⟨j, .pushR i, l⟩, s)).2.hs = s.hs ∧ (match (s.hs j).getLast? with | none => startS j l s | some i => (⟨j, .pushR i, l⟩, s)).2.gt = s.gt ∧ (match (s.hs j).getLast? with | none => startS j l s | some i => (⟨j, .pushR i, l⟩, s)).2.wr = s.wr ∧ (match (s.hs j).getLast? with | none => startS j l s | some i => (⟨j, .pushR i, l⟩, s)).1.l.length ≤ (false :: l).length ∧ (∀ L, mu (match (s.hs j).getLast? with | none => startS j l s | some i => (⟨j, .pushR i, l⟩, s)).1 L ≤ 3 * (false :: l).length) ∧ ((∀ i, i ∈ s.hs j → 0 ≤ i) → qok (match (s.hs j).getLast? with | none => startS j l s | some i => (⟨j, .pushR i, l⟩, s)).1)
    cases h : (s.hs j).getLast? with
    | none =>
      obtain ⟨h1, h2, h3, h4, h5, h6, h7, h8⟩ := startS_facts j l s
      exact ⟨h1, h2, h3, h4, h5, by simp; omega, fun L => by have := h7 L; simp; omega, h8⟩
    | some i =>
      refine ⟨rfl, rfl, rfl, rfl, rfl, by simp, fun L => by simp [mu]; omega, fun hp => ?_⟩
      exact hp i (List.mem_of_getLast? h)

section
variable {P : SP}
theorem casA_length (l : List Int) (i o v : Int) : (casA l i o v).length = l.length := casA_len l i o v

/-- what a step leaves. -/
theorem sk_facts (q : SPr) (s : SSt) (hl : 0 < s.l.length) (hq : qok q) (hp : ∀ i, i ∈ s.hs q.j → 0 ≤ i) :
    (skStep P q s).1.j = q.j ∧ (skStep P q s).2.l.length = s.l.length ∧ (∀ i, i ≠ q.j → (skStep P q s).2.hs i = s.hs i) ∧ (skStep P q s).1.l.length ≤ q.l.length ∧ qok (skStep P q s).1 ∧ (∀ i, i ∈ (skStep P q s).2.hs q.j → 0 ≤ i) ∧ ((SM P).ended q = false → mu (skStep P q s).1 (skStep P q s).2.l + 1 ≤ mu q s.l) := by
  obtain ⟨j, m, l⟩ := q
  have has : hasA s.l 0 = true := by rw [hasA_iff]; omega
  have st : ∀ (s' : SSt), s'.l.length = s.l.length → (∀ i, i ≠ j → s'.hs i = s.hs i) → (∀ i, i ∈ s'.hs j → 0 ≤ i) → ∀ n, 3 * l.length + 1 ≤ n →
      (startS j l s').1.j = j ∧ (startS j l s').2.l.length = s.l.length ∧ (∀ i, i ≠ j → (startS j l s').2.hs i = s.hs i) ∧ (startS j l s').1.l.length ≤ l.length ∧ qok (startS j l s').1 ∧ (∀ i, i ∈ (startS j l s').2.hs j → 0 ≤ i) ∧ mu (startS j l s').1 (startS j l s').2.l + 1 ≤ n := by
    intro s' h1 h2 h3 n hn
    obtain ⟨g1, g2, g3, _, _, g6, g7, g8⟩ := startS_facts j l s'
    exact ⟨g1, by rw [g2]; exact h1, fun i hi => by rw [g3]; exact h2 i hi, g6, g8 h3, by rw [g3]; exact h3, by have := g7 (startS j l s').2.l; omega⟩
  cases m with
  | done => exact ⟨rfl, rfl, fun _ _ => rfl, Nat.le_refl _, trivial, hp, fun h => by cases h⟩
  | popR =>
    unfold skStep
    dsimp only
    split
    · rename_i h
      obtain ⟨a1, a2, a3, a4, a5, a6, a7⟩ := st (({ s with k := moreA s.l 0 s.k } : SSt).popped (P.has j) j (-1) false) rfl (fun i _ => rfl) hp (mu ⟨j, .popR, l⟩ s.l) (by simp only [mu]; omega)
      exact ⟨a1, a2, a3, a4, a5, a6, fun _ => a7⟩
    · rename_i h
      exact ⟨rfl, rfl, fun _ _ => rfl, Nat.le_refl _, h, hp, fun _ => by simp only [mu, ↓reduceIte]; omega⟩
  | popN o =>
    refine ⟨rfl, rfl, fun _ _ => rfl, Nat.le_refl _, hq, hp, fun _ => ?_⟩
    show mu ⟨j, .popT o _, l⟩ s.l + 1 ≤ _
    simp only [mu]
    split <;> omega
  | popT o y =>
    have hq : hIx o ≠ -1 := hq
    unfold skStep
    dsimp only
    split
    · rename_i h
      obtain ⟨a1, a2, a3, a4, a5, a6, a7⟩ := st (({ s with l := casA s.l 0 o (newH o y), k := moreA s.l 0 s.k } : SSt).popped (P.has j) j (hIx o) true) (casA_len _ _ _ _) (fun i hi => by simp [SSt.popped, updF_ne _ _ hi]) (fun i hi => by
        simp only [SSt.popped, if_true, updF_same] at hi
        rcases List.mem_append.1 hi with h1 | h1
        · exact hp i h1
        · rw [List.mem_singleton] at h1
          have := hIx_ix hq
          unfold Ix at this
          omega) (mu ⟨j, .popT o y, l⟩ s.l) (by simp only [mu]; split <;> omega)
      exact ⟨a1, a2, a3, a4, a5, a6, fun _ => a7⟩
    · rename_i h
      refine ⟨rfl, casA_len _ _ _ _, fun _ _ => rfl, Nat.le_refl _, trivial, hp, fun _ => ?_⟩
      have : getA s.l 0 ≠ o := fun e => h (by simp [casB, has, e])
      simp only [mu]
      rw [if_neg this]
      omega
  | pushR i => exact ⟨rfl, rfl, fun _ _ => rfl, Nat.le_refl _, hq, hp, fun _ => by
      show mu ⟨j, .pushS i (getA s.l 0), l⟩ s.l + 1 ≤ _
      simp only [mu, ↓reduceIte]; omega⟩
  | pushS i o =>
    have hq : 0 ≤ i := hq
    refine ⟨rfl, setA_length _ _ _, fun _ _ => rfl, Nat.le_refl _, hq, hp, fun _ => ?_⟩
    show mu ⟨j, .pushT i o, l⟩ (setA s.l (i + 1) (hIx o + 1)) + 1 ≤ _
    have e : getA (setA s.l (i + 1) (hIx o + 1)) 0 = getA s.l 0 := by rw [getA_setA]; exact if_neg (fun h => by have := h.1; omega)
    simp only [mu]
    rw [e]
    split <;> omega
  | pushT i o =>
    unfold skStep
    dsimp only
    split
    · rename_i h
      obtain ⟨a1, a2, a3, a4, a5, a6, a7⟩ := st (({ s with l := casA s.l 0 o (newH o i), k := moreA s.l 0 s.k } : SSt).pushed j) (casA_len _ _ _ _) (fun i hi => by simp [SSt.pushed, updF_ne _ _ hi]) (fun i hi => by
        simp only [SSt.pushed, updF_same] at hi
        rw [List.dropLast_eq_take] at hi
        exact hp i (List.mem_of_mem_take hi)) (mu ⟨j, .pushT i o, l⟩ s.l) (by simp only [mu]; split <;> omega)
      exact ⟨a1, a2, a3, a4, a5, a6, fun _ => a7⟩
    · rename_i h
      refine ⟨rfl, casA_len _ _ _ _, fun _ _ => rfl, Nat.le_refl _, hq, hp, fun _ => ?_⟩
      have : getA s.l 0 ≠ o := fun e => h (by simp [casB, has, e])
      simp only [mu]
      rw [if_neg this]
      omega

/-- what holds of all tasks, however they are picked. -/
structure Inv8 (P : SP) (N : Nat) (c : Cfg SSt SPr) : Prop where
  len : 0 < c.s.l.length
  j : ∀ i, i < N → (c.q i).j = i
  ok : ∀ i, i < N → qok (c.q i)
  hs : ∀ i, i < N → ∀ y, y ∈ c.s.hs i → 0 ≤ y
  w : ∀ i, i < N → (SM P).W (c.q i) c.s
  l : ∀ i, i < N → (c.q i).l.length ≤ 12
theorem W_hs {q : SPr} {s s' : SSt} (h : (SM P).W q s) (e : s'.hs q.j = s.hs q.j) : (SM P).W q s' := by
  obtain ⟨i, m, l⟩ := q
  have e : s'.hs i = s.hs i := e
  cases m <;> first | trivial | (show s'.hs i ≠ []; rw [e]; exact h)
theorem Inv8.pick {N : Nat} {c : Cfg SSt SPr} (h : Inv8 P N c) (y : Int) : Inv8 P N ((SM P).pick N c y) := by
  unfold Gm.pick
  by_cases hd : (SM P).does N c y = true
  · rw [if_pos hd]
    obtain ⟨k, rfl, hk⟩ : ∃ k : Nat, y = k ∧ k < N := by
      simp [Gm.does] at hd
      exact ⟨y.toNat, by omega, by omega⟩
    simp only [Int.toNat_natCast]
    have hj := h.j k hk
    obtain ⟨a1, a2, a3, a4, a5, a6, _⟩ := sk_facts (P := P) (c.q k) c.s h.len (h.ok k hk) (by rw [hj]; exact h.hs k hk)
    rw [hj] at a1 a3 a6
    refine ⟨by show 0 < ((SM P).step (c.q k) c.s).2.l.length; rw [show ((SM P).step (c.q k) c.s).2.l.length = c.s.l.length from a2]; exact h.len, fun i hi => ?_, fun i hi => ?_, fun i hi => ?_, fun i hi => ?_, fun i hi => ?_⟩
    · by_cases e : i = k
      · subst e; show (updF c.q i _ i).j = i; rw [updF_same]; exact a1
      · show (updF c.q k _ i).j = i; rw [updF_ne _ _ e]; exact h.j i hi
    · by_cases e : i = k
      · subst e; show qok (updF c.q i _ i); rw [updF_same]; exact a5
      · show qok (updF c.q k _ i); rw [updF_ne _ _ e]; exact h.ok i hi
    · by_cases e : i = k
      · subst e; exact a6
      · show ∀ y, y ∈ ((SM P).step (c.q k) c.s).2.hs i → 0 ≤ y
        rw [show ((SM P).step (c.q k) c.s).2.hs i = c.s.hs i from a3 i e]
        exact h.hs i hi
    · by_cases e : i = k
      · subst e; show (SM P).W (updF c.q i _ i) _; rw [updF_same]; exact W_step (h.w i hi)
      · show (SM P).W (updF c.q k _ i) _
        rw [updF_ne _ _ e]
        exact W_hs (h.w i hi) (by rw [h.j i hi]; exact a3 i e)
    · by_cases e : i = k
      · subst e; show (updF c.q i _ i).l.length ≤ 12; rw [updF_same]; exact Nat.le_trans a4 (h.l i hi)
      · show (updF c.q k _ i).l.length ≤ 12; rw [updF_ne _ _ e]; exact h.l i hi
  · rw [if_neg hd]
    exact h
theorem Inv8.picks {N : Nat} {c : Cfg SSt SPr} (h : Inv8 P N c) (xs : List Int) : ∀ m, m ≤ xs.length → Inv8 P N ((SM P).picks N c xs m)
  | 0, _ => by simpa [Gm.picks] using h
  | m + 1, hm => by
    rw [picks_succ (SM P) N c xs m (by omega)]
    exact (Inv8.picks h xs m (by omega)).pick _

/-- alone, it is through. -/
theorem soon : ∀ (n : Nat) (q : SPr) (s : SSt), 0 < s.l.length → qok q → (∀ i, i ∈ s.hs q.j → 0 ≤ i) → mu q s.l ≤ n → (SM P).ended ((SM P).go n (q, s)).1 = true
  | 0, q, s, hl, hq, hp, hm => by
    obtain ⟨j, m, l⟩ := q
    cases m <;> first | rfl | (exfalso; simp only [mu] at hm; omega) | (exfalso; simp only [mu] at hm; split at hm <;> omega)
  | n + 1, q, s, hl, hq, hp, hm => by
    cases he : (SM P).ended q with
    | true => simp only [Gm.go, he]
    | false =>
      simp only [Gm.go, he]
      obtain ⟨a1, a2, a3, a4, a5, a6, a7⟩ := sk_facts (P := P) q s hl hq hp
      have := a7 he
      exact soon n (skStep P q s).1 (skStep P q s).2 (by rw [a2]; exact hl) a5 (by rw [a1]; exact a6) (by omega)
theorem soon_run {q : SPr} {s : SSt} {d most : Nat} (hl : 0 < s.l.length) (hq : qok q) (hp : ∀ i, i ∈ s.hs q.j → 0 ≤ i) (h12 : q.l.length ≤ 12) (hm : 41 ≤ most) : (SM P).ended ((SM P).runN q s d most).1 = true := by
  have hmu := mu_le q s.l
  have h := soon (P := P) most q s hl hq hp (by omega)
  rw [(runN_go (M := SM P) most q s d).1]
  exact h
end

end Go.Proofs.Ythjbmaeoogophaa

/- Layer 8: many workers at once: nothing is lost, nothing taken twice. -/
namespace Go.Proofs.Ythjbmaeoogophaa
open Go.RowKit
set_option maxRecDepth 100000

/-- all that is in hands. -/
def allH (N : Nat) (hs : Nat → List Int) : List Int := (List.range N).flatMap hs
theorem allH_succ (N : Nat) (hs : Nat → List Int) : allH (N + 1) hs = allH N hs ++ hs N := by
  unfold allH
  rw [List.range_succ, List.flatMap_append]
  simp
theorem allH_congr {f g : Nat → List Int} : ∀ (N : Nat), (∀ i, i < N → f i = g i) → allH N f = allH N g
  | 0, _ => rfl
  | N + 1, h => by rw [allH_succ, allH_succ, allH_congr N (fun i hi => h i (by omega)), h N (by omega)]
theorem allH_perm {f g : Nat → List Int} {j : Nat} {x : Int} : ∀ (N : Nat), j < N → (f j).Perm (x :: g j) → (∀ i, i ≠ j → f i = g i) → (allH N f).Perm (x :: allH N g)
  | 0, hj, _, _ => by omega
  | N + 1, hj, hp, he => by
    rw [allH_succ, allH_succ]
    by_cases h : j = N
    · subst h
      rw [allH_congr j (fun i hi => he i (by omega))]
      exact (List.Perm.append_left _ hp).trans List.perm_middle
    · rw [he N (by omega)]
      exact (List.Perm.append_right _ (allH_perm N (by omega) hp he))
theorem mem_allH {N : Nat} {hs : Nat → List Int} {j : Nat} {x : Int} (hj : j < N) (h : x ∈ hs j) : x ∈ allH N hs := List.mem_flatMap.2 ⟨j, List.mem_range.2 hj, h⟩

/-- a head that was read: it is the head still, or the head was written since. -/
def oOk (n : Nat) (H o : Int) : Prop := N64 o ∧ hCt o ≤ hCt H ∧ (hCt o = hCt H → o = H) ∧ hIx o < n
def Wk (n : Nat) (l : List Int) (hj : List Int) : Mic → Prop
  | .done => True
  | .popR => True
  | .popN o => oOk n (getA l 0) o ∧ hIx o ≠ -1
  | .popT o y => oOk n (getA l 0) o ∧ hIx o ≠ -1 ∧ (o = getA l 0 → y = nxOf (getA l (hIx o + 1)))
  | .pushR i => hj.getLast? = some i
  | .pushS i o => hj.getLast? = some i ∧ oOk n (getA l 0) o
  | .pushT i o => hj.getLast? = some i ∧ oOk n (getA l 0) o ∧ getA l (i + 1) = hIx o + 1

/-- all workers, however they are picked. -/
structure Gl (n N T : Nat) (q : Nat → SPr) (s : SSt) (ts : List Int) : Prop where
  ok : SOk n s.l
  ch : Ch s.l (hIx (getA s.l 0)) ts
  perm : (ts ++ allH N s.hs).Perm (upto n)
  cnt : hCt (getA s.l 0) ≤ T
  wk : ∀ j, j < N → Wk n s.l (s.hs j) (q j).m
  j : ∀ j, j < N → (q j).j = j
  wr : ∀ j, j < N → s.wr j = false
  fit : ∀ i, N64 (getA s.l i)

section
variable {n N T : Nat} {q : Nat → SPr} {s : SSt} {ts : List Int}
theorem Gl.range (h : Gl n N T q s ts) {x : Int} (hx : x ∈ ts ∨ x ∈ allH N s.hs) : 0 ≤ x ∧ x < n := by
  obtain ⟨m, hm, rfl⟩ := List.mem_map.1 (h.perm.subset (List.mem_append.2 hx))
  have := List.mem_range.1 hm
  omega
theorem upto_nodup (n : Nat) : (upto n).Nodup := List.pairwise_map.2 (List.nodup_range.imp fun {a b} hne e => hne (by have e : (a : Int) = b := e; omega))
theorem Gl.nodup (h : Gl n N T q s ts) : (ts ++ allH N s.hs).Nodup := h.perm.nodup_iff.2 (upto_nodup n)
theorem Gl.apart (h : Gl n N T q s ts) {x : Int} (h1 : x ∈ ts) (h2 : x ∈ allH N s.hs) : False := by
  have := h.nodup
  rw [List.nodup_append] at this
  exact this.2.2 x h1 x h2 rfl
theorem allH_nodup {hs : Nat → List Int} : ∀ (N : Nat), (allH N hs).Nodup → ∀ (i j : Nat) (x : Int), i < N → j < N → x ∈ hs i → x ∈ hs j → i = j
  | 0, _, _, _, _, hi, _, _, _ => by omega
  | N + 1, h, i, j, x, hi, hj, h1, h2 => by
    rw [allH_succ, List.nodup_append] at h
    rcases (by omega : i < N ∨ i = N) with a | a <;> rcases (by omega : j < N ∨ j = N) with b | b
    · exact allH_nodup N h.1 i j x a b h1 h2
    · exact absurd rfl (h.2.2 x (mem_allH a h1) x (b ▸ h2))
    · exact absurd rfl (h.2.2 x (mem_allH b h2) x (a ▸ h1))
    · omega
theorem Gl.sole (h : Gl n N T q s ts) {i j : Nat} {x : Int} (hi : i < N) (hj : j < N) (h1 : x ∈ s.hs i) (h2 : x ∈ s.hs j) : i = j := by
  have := h.nodup
  rw [List.nodup_append] at this
  exact allH_nodup N this.2.1 i j x hi hj h1 h2

theorem Wk.start {n : Nat} {j : Nat} : ∀ (l : List Bool) (s : SSt), Wk n (startS j l s).2.l ((startS j l s).2.hs j) (startS j l s).1.m
  | [], s => trivial
  | true :: l, s => trivial
  | false :: l, s => by
    show Wk n (match (s.hs j).getLast? with | none => startS j l s | some i => (⟨j, .pushR i, l⟩, s)).2.l ((match (s.hs j).getLast? with | none => startS j l s | some i => (⟨j, .pushR i, l⟩, s)).2.hs j) (match (s.hs j).getLast? with | none => startS j l s | some i => (⟨j, .pushR i, l⟩, s)).1.m
    cases h : (s.hs j).getLast? with
    | none => exact Wk.start l s
    | some i => exact h

/-- the head was written: whoever has read it finds it out. -/
theorem Wk.turned {n : Nat} {l l' : List Int} {hj : List Int} {m : Mic} (h : Wk n l hj m) (hc : hCt (getA l' 0) = hCt (getA l 0) + 1) (hl : ∀ i : Int, 0 ≤ i → getA l' (i + 1) = getA l (i + 1)) (hm : ∀ i, hj.getLast? = some i → 0 ≤ i) : Wk n l' hj m := by
  have o1 : ∀ {o : Int}, oOk n (getA l 0) o → oOk n (getA l' 0) o ∧ o ≠ getA l' 0 := fun {o} ho => by
    refine ⟨⟨ho.1, by have := ho.2.1; omega, fun e => by have := ho.2.1; omega, ho.2.2.2⟩, fun e => ?_⟩
    have := ho.2.1
    rw [e] at this
    omega
  cases m with
  | done => trivial
  | popR => trivial
  | popN o => exact ⟨(o1 h.1).1, h.2⟩
  | popT o y => exact ⟨(o1 h.1).1, h.2.1, fun e => absurd e (o1 h.1).2⟩
  | pushR i => exact h
  | pushS i o => exact ⟨h.1, (o1 h.2).1⟩
  | pushT i o => exact ⟨h.1, (o1 h.2.1).1, by rw [hl i (hm i h.1)]; exact h.2.2⟩
/-- the link of a thing in another one's hand was written. -/
theorem Wk.linked {n : Nat} {l : List Int} {hj : List Int} {m : Mic} {i v : Int} (h : Wk n l hj m) (hi : 0 ≤ i) (h1 : i ∉ hj) (h2 : hIx (getA l 0) ≠ i) : Wk n (setA l (i + 1) v) hj m := by
  have e0 : getA (setA l (i + 1) v) 0 = getA l 0 := by rw [getA_setA]; exact if_neg (fun h => by have := h.1; omega)
  cases m with
  | done => trivial
  | popR => trivial
  | popN o => exact ⟨by rw [e0]; exact h.1, h.2⟩
  | popT o y =>
    refine ⟨by rw [e0]; exact h.1, h.2.1, fun e => ?_⟩
    rw [e0] at e
    rw [getA_setA, if_neg (fun hh => h2 (by rw [← e]; have := hh.1; omega))]
    exact h.2.2 e
  | pushR i => exact h
  | pushS i o => exact ⟨h.1, by rw [e0]; exact h.2⟩
  | pushT y o =>
    refine ⟨h.1, by rw [e0]; exact h.2.1, ?_⟩
    rw [getA_setA, if_neg (fun hh => h1 (by have := hh.1; have e : y = i := (by omega); rw [← e]; exact List.mem_of_getLast? h.1))]
    exact h.2.2

/-- a step of worker j, put together. -/
theorem Gl.next (h : Gl n N T q s ts) {j : Nat} (hj : j < N) {q' : SPr} {s' : SSt} {ts' : List Int} (hq : q'.j = j) (ok : SOk n s'.l) (ch : Ch s'.l (hIx (getA s'.l 0)) ts') (perm : (ts' ++ allH N s'.hs).Perm (upto n)) (cnt : hCt (getA s'.l 0) ≤ T + 1)
    (hw : Wk n s'.l (s'.hs j) q'.m) (ho : ∀ i, i < N → i ≠ j → Wk n s.l (s.hs i) (q i).m → Wk n s'.l (s'.hs i) (q i).m) (hwr : ∀ i, i < N → s'.wr i = false) (fit : ∀ i, N64 (getA s'.l i)) : Gl n N (T + 1) (updF q j q') s' ts' := by
  refine ⟨ok, ch, perm, cnt, fun i hi => ?_, fun i hi => ?_, hwr, fit⟩
  · by_cases e : i = j
    · subst e; rw [updF_same]; exact hw
    · rw [updF_ne _ _ e]; exact ho i hi e (h.wk i hi)
  · by_cases e : i = j
    · subst e; rw [updF_same]; exact hq
    · rw [updF_ne _ _ e]; exact h.j i hi

theorem Gl.step {P : SP} (h : Gl n N T q s ts) {j : Nat} (hj : j < N) (hT : T < 4000000000) (hn : n ≤ 1000) (hb : (q j).m = .popR → hIx (getA s.l 0) = -1 → s.ba j = true) : ∃ ts', Gl n N (T + 1) (updF q j (skStep P (q j) s).1) (skStep P (q j) s).2 ts' := by
  have hf := h.fit
  have hjj := h.j j hj
  have hwj := h.wk j hj
  have has : hasA s.l 0 = true := by rw [hasA_iff]; have := h.ok.len; omega
  have hlen0 : 0 < s.l.length := by have := h.ok.len; omega
  have self : oOk n (getA s.l 0) (getA s.l 0) := ⟨hf 0, Int.le_refl _, fun _ => rfl, h.ok.head.2⟩
  have hcbT : ∀ {o : Int}, casB s.l 0 o = true → o = getA s.l 0 := fun e => by
    have := (show casB s.l 0 _ = true from e)
    unfold casB at this
    simp [has] at this
    exact this.symm
  rcases hq : q j with ⟨jq, m, l⟩
  have hjj : jq = j := by rw [hq] at hjj; exact hjj
  subst hjj
  rw [hq] at hwj hb
  have keepAll : ∀ i, i < N → i ≠ jq → Wk n s.l (s.hs i) (q i).m → Wk n s.l (s.hs i) (q i).m := fun _ _ _ x => x
  cases m with
  | done => exact ⟨ts, h.next hj rfl h.ok h.ch h.perm (by have := h.cnt; show hCt (getA s.l 0) ≤ _; omega) trivial keepAll h.wr h.fit⟩
  | popR =>
    unfold skStep
    dsimp only
    split
    · rename_i he
      obtain ⟨g1, g2, g3, _, g5, _, _, _⟩ := startS_facts jq l (({ s with k := moreA s.l 0 s.k } : SSt).popped (P.has jq) jq (-1) false)
      have hw := Wk.start (n := n) (j := jq) l (({ s with k := moreA s.l 0 s.k } : SSt).popped (P.has jq) jq (-1) false)
      generalize startS jq l (({ s with k := moreA s.l 0 s.k } : SSt).popped (P.has jq) jq (-1) false) = R at *
      have e2 : R.2.l = s.l := g2
      have e3 : R.2.hs = s.hs := by rw [g3]; rfl
      have e5 : ∀ i, i < N → R.2.wr i = false := fun i hi => by
        rw [g5]
        by_cases e : i = jq
        · subst e
          simp [SSt.popped, updF_same, h.wr i hi, hb rfl he]
        · simp [SSt.popped, updF_ne _ _ e, h.wr i hi]
      refine ⟨ts, h.next hj g1 (by rw [e2]; exact h.ok) (by rw [e2]; exact h.ch) (by rw [e3]; exact h.perm) (by rw [e2]; have := h.cnt; omega) hw (fun i hi hne x => by rw [e2, e3]; exact x) e5 (fun i => by rw [e2]; exact h.fit i)⟩
    · rename_i he
      exact ⟨ts, h.next hj rfl h.ok h.ch h.perm (by have := h.cnt; show hCt (getA s.l 0) ≤ _; omega) ⟨self, he⟩ keepAll h.wr h.fit⟩
  | popN o => exact ⟨ts, h.next hj rfl h.ok h.ch h.perm (by have := h.cnt; show hCt (getA s.l 0) ≤ _; omega) ⟨hwj.1, hwj.2, fun _ => rfl⟩ keepAll h.wr h.fit⟩
  | pushR i => exact ⟨ts, h.next hj rfl h.ok h.ch h.perm (by have := h.cnt; show hCt (getA s.l 0) ≤ _; omega) ⟨hwj, self⟩ keepAll h.wr h.fit⟩
  | popT o y =>
    have hwo : hIx o ≠ -1 := hwj.2.1
    unfold skStep
    dsimp only
    split
    · rename_i he
      have eo := hcbT he
      have ey := hwj.2.2 eo
      cases hts : ts with
      | nil =>
        have := h.ch
        rw [hts] at this
        exact absurd (eo ▸ this : hIx o = -1) hwo
      | cons x ts' =>
        have hch := h.ch
        rw [hts] at hch
        obtain ⟨hx1, hx0, hx2⟩ := hch
        have hxo : hIx o = x := by rw [eo]; exact hx1
        have hy : nxOf (getA s.l (x + 1)) = -1 ∨ (0 ≤ nxOf (getA s.l (x + 1)) ∧ nxOf (getA s.l (x + 1)) < n) := by
          cases ts' with
          | nil => exact .inl hx2
          | cons z zs => right; rw [hx2.1]; exact h.range (.inl (by rw [hts]; simp))
        have ey' : y = nxOf (getA s.l (x + 1)) := by rw [ey, hxo]
        have hy0 : Ix0 y := by rw [ey']; unfold Ix0; omega
        have hct := hCt_in (hf 0)
        have hcnt := h.cnt
        have e0 : getA (casA s.l 0 o (newH o y)) 0 = newH o y := by rw [getA_casA, if_pos ⟨rfl, he⟩]
        have el : ∀ i : Int, 0 ≤ i → getA (casA s.l 0 o (newH o y)) (i + 1) = getA s.l (i + 1) := fun i hi => by rw [getA_casA, if_neg (by omega)]
        have hc : hCt (newH o y) = hCt (getA s.l 0) + 1 := by rw [hCt_newH hy0, eo]; omega
        obtain ⟨g1, g2, g3, _, g5, _, _, _⟩ := startS_facts jq l (({ s with l := casA s.l 0 o (newH o y), k := moreA s.l 0 s.k } : SSt).popped (P.has jq) jq (hIx o) true)
        have hw := Wk.start (n := n) (j := jq) l (({ s with l := casA s.l 0 o (newH o y), k := moreA s.l 0 s.k } : SSt).popped (P.has jq) jq (hIx o) true)
        generalize startS jq l (({ s with l := casA s.l 0 o (newH o y), k := moreA s.l 0 s.k } : SSt).popped (P.has jq) jq (hIx o) true) = R at *
        have e2 : R.2.l = casA s.l 0 o (newH o y) := g2
        have e3 : R.2.hs = updF s.hs jq (s.hs jq ++ [x]) := by rw [g3, ← hxo]; rfl
        have e5 : ∀ i, i < N → R.2.wr i = false := fun i hi => by
          rw [g5]
          have hx0' : 0 ≤ hIx o := by omega
          by_cases e : i = jq
          · subst e
            simp [SSt.popped, updF_same, h.wr i hi, hx0']
          · simp [SSt.popped, updF_ne _ _ e, h.wr i hi]
        have hp := allH_perm (f := updF s.hs jq (s.hs jq ++ [x])) (g := s.hs) (x := x) N hj (by rw [updF_same]; exact List.perm_append_singleton x (s.hs jq)) (fun i hi => updF_ne _ _ hi)
        refine ⟨ts', h.next hj g1 ?_ ?_ ?_ ?_ hw (fun i hi hne hx => ?_) e5 (fun i => by rw [e2, getA_casA]; split; exact newH_in hy0; exact h.fit i)⟩
        · rw [e2]; exact h.ok.turn hy0 (by rw [ey']; omega)
        · rw [e2, e0, hIx_newH hy0]
          have hx3 : Ch s.l y ts' := by rw [ey']; exact hx2
          exact hx3.keep fun z hz => el z (h.range (.inl (by rw [hts]; simp [hz]))).1
        · rw [e3]
          refine List.Perm.trans ((List.Perm.append_left _ hp).trans List.perm_middle) ?_
          have := h.perm
          rw [hts] at this
          exact this
        · rw [e2, e0, hc]; omega
        · rw [e2, e3, updF_ne _ _ hne]
          exact hx.turned (by rw [e0, hc]) el (fun z hz => (h.range (.inr (mem_allH hi (List.mem_of_getLast? hz)))).1)
    · rename_i he
      have en : casA s.l 0 o (newH o y) = s.l := by unfold casA; rw [if_neg he]
      refine ⟨ts, h.next hj rfl (by show SOk n (casA _ _ _ _); rw [en]; exact h.ok) (by show Ch (casA _ _ _ _) (hIx (getA (casA _ _ _ _) 0)) ts; rw [en]; exact h.ch) h.perm (by have := h.cnt; show hCt (getA (casA _ _ _ _) 0) ≤ _; rw [en]; omega) trivial (fun i hi hne x => by show Wk n (casA _ _ _ _) _ _; rw [en]; exact x) h.wr (fun i => by show N64 (getA (casA _ _ _ _) i); rw [en]; exact h.fit i)⟩
  | pushS i o =>
    have hi : (s.hs jq).getLast? = some i := hwj.1
    have him := List.mem_of_getLast? hi
    have hir := h.range (.inr (mem_allH hj him))
    have hits : i ∉ ts := fun hm => h.apart hm (mem_allH hj him)
    have hih : hIx (getA s.l 0) ≠ i := fun e => by
      cases hts : ts with
      | nil => have := h.ch; rw [hts] at this; have this : hIx (getA s.l 0) = -1 := this; omega
      | cons x ts' => have := h.ch; rw [hts] at this; exact hits (by rw [hts, ← e, this.1]; simp)
    have e0 : getA (setA s.l (i + 1) (hIx o + 1)) 0 = getA s.l 0 := by rw [getA_setA]; exact if_neg (fun h => by have := h.1; omega)
    have hon : hIx o < n := hwj.2.2.2.2
    refine ⟨ts, h.next hj rfl (h.ok.lay hon hir.1) (by show Ch (setA _ _ _) (hIx (getA (setA _ _ _) 0)) ts; rw [e0]; exact h.ch.keep fun z hz => by rw [getA_setA, if_neg (fun hh => hits (by have := hh.1; have e : z = i := (by omega); rw [← e]; exact hz))]) h.perm (by have := h.cnt; show hCt (getA (setA _ _ _) 0) ≤ _; rw [e0]; omega) ?_ (fun k hk hne x => ?_) h.wr (fun z => by show N64 (getA (setA _ _ _) z); rw [getA_setA]; split; (have := hIx_in (v := o); unfold Ix0 at this; unfold N64; omega); exact h.fit z)⟩
    · refine ⟨hi, by show oOk n (getA (setA _ _ _) 0) o; rw [e0]; exact hwj.2, ?_⟩
      show getA (setA _ _ _) (i + 1) = _
      rw [getA_setA, if_pos ⟨rfl, by rw [hasA_iff]; have := h.ok.len; omega⟩]
    · exact x.linked hir.1 (fun hm => hne (h.sole hk hj hm him)) hih
  | pushT i o =>
    have hi : (s.hs jq).getLast? = some i := hwj.1
    have him := List.mem_of_getLast? hi
    have hir := h.range (.inr (mem_allH hj him))
    unfold skStep
    dsimp only
    split
    · rename_i he
      have eo := hcbT he
      have hlk : getA s.l (i + 1) = hIx o + 1 := hwj.2.2
      have hi0 : Ix0 i := by unfold Ix0; omega
      have hct := hCt_in (hf 0)
      have hcnt := h.cnt
      have e0 : getA (casA s.l 0 o (newH o i)) 0 = newH o i := by rw [getA_casA, if_pos ⟨rfl, he⟩]
      have el : ∀ z : Int, 0 ≤ z → getA (casA s.l 0 o (newH o i)) (z + 1) = getA s.l (z + 1) := fun z hz => by rw [getA_casA, if_neg (by omega)]
      have hc : hCt (newH o i) = hCt (getA s.l 0) + 1 := by rw [hCt_newH hi0, eo]; omega
      obtain ⟨g1, g2, g3, _, g5, _, _, _⟩ := startS_facts jq l (({ s with l := casA s.l 0 o (newH o i), k := moreA s.l 0 s.k } : SSt).pushed jq)
      have hw := Wk.start (n := n) (j := jq) l (({ s with l := casA s.l 0 o (newH o i), k := moreA s.l 0 s.k } : SSt).pushed jq)
      generalize startS jq l (({ s with l := casA s.l 0 o (newH o i), k := moreA s.l 0 s.k } : SSt).pushed jq) = R at *
      have e2 : R.2.l = casA s.l 0 o (newH o i) := g2
      have e3 : R.2.hs = updF s.hs jq (s.hs jq).dropLast := by rw [g3]; rfl
      have e5 : ∀ z, z < N → R.2.wr z = false := fun z hz => by rw [g5]; exact h.wr z hz
      obtain ⟨ys, hys⟩ := List.getLast?_eq_some_iff.1 hi
      have hp := allH_perm (f := s.hs) (g := updF s.hs jq (s.hs jq).dropLast) (x := i) N hj (by rw [updF_same, hys, List.dropLast_concat]; exact List.perm_append_singleton i ys) (fun z hz => (updF_ne _ _ hz).symm)
      have hhd : Ix0 (hIx o) := hIx_in
      refine ⟨i :: ts, h.next hj g1 ?_ ?_ ?_ ?_ hw (fun k hk hne x => ?_) e5 (fun z => by rw [e2, getA_casA]; split; exact newH_in hi0; exact h.fit z)⟩
      · rw [e2]; exact h.ok.turn hi0 hir.2
      · rw [e2, e0, hIx_newH hi0]
        refine ⟨rfl, hir.1, ?_⟩
        rw [el i hir.1, hlk]
        have e6 : nxOf (hIx o + 1) = hIx o := by unfold Ix0 at hhd; unfold nxOf; rw [if_neg (by omega)]; omega
        rw [e6]
        have hx3 : Ch s.l (hIx o) ts := by rw [eo]; exact h.ch
        exact hx3.keep fun z hz => el z (h.range (.inl hz)).1
      · rw [e3]
        exact ((List.perm_middle.symm.trans (List.Perm.append_left _ hp.symm))).trans h.perm
      · rw [e2, e0, hc]; omega
      · rw [e2, e3, updF_ne _ _ hne]
        exact x.turned (by rw [e0, hc]) el (fun z hz => (h.range (.inr (mem_allH hk (List.mem_of_getLast? hz)))).1)
    · rename_i he
      have en : casA s.l 0 o (newH o i) = s.l := by unfold casA; rw [if_neg he]
      refine ⟨ts, h.next hj rfl (by show SOk n (casA _ _ _ _); rw [en]; exact h.ok) (by show Ch (casA _ _ _ _) (hIx (getA (casA _ _ _ _) 0)) ts; rw [en]; exact h.ch) h.perm (by have := h.cnt; show hCt (getA (casA _ _ _ _) 0) ≤ _; rw [en]; omega) hi (fun k hk hne x => by show Wk n (casA _ _ _ _) _ _; rw [en]; exact x) h.wr (fun z => by show N64 (getA (casA _ _ _ _) z); rw [en]; exact h.fit z)⟩
theorem Gl.congr {q' : Nat → SPr} (h : Gl n N T q s ts) (e : ∀ j, j < N → q' j = q j) : Gl n N T q' s ts := ⟨h.ok, h.ch, h.perm, h.cnt, fun j hj => by rw [e j hj]; exact h.wk j hj, fun j hj => by rw [e j hj]; exact h.j j hj, h.wr, h.fit⟩
/-- nothing that it speaks of has turned. -/
theorem Gl.same {s' : SSt} (h : Gl n N T q s ts) (e1 : s'.l = s.l) (e2 : s'.hs = s.hs) (e3 : s'.wr = s.wr) : Gl n N T q s' ts := ⟨by rw [e1]; exact h.ok, by rw [e1]; exact h.ch, by rw [e2]; exact h.perm, by rw [e1]; exact h.cnt, fun j hj => by rw [e1, e2]; exact h.wk j hj, h.j, by rw [e3]; exact h.wr, by rw [e1]; exact h.fit⟩
theorem Gl.told (h : Gl n N T q s ts) (hn : n ≤ 1000) : chL s.l (fun i => i + 1) s.l.length (hIx (getA s.l 0)) = ts := h.ch.told (fun i hi => by
  have h1 := h.range (.inl hi)
  obtain ⟨j, rfl⟩ := Int.eq_ofNat_of_zero_le h1.1
  have := h.ok.link j (by omega)
  omega) (by
  have h1 := h.perm.length_eq
  rw [List.length_append, upto_length] at h1
  have h2 := h.ok.len
  omega)
/-- a worker more, with nothing in hand. -/
theorem Gl.more {l : List Bool} (h : Gl n N T q s ts) (s' : SSt) (e1 : s'.l = s.l) (e2 : s'.hs = updF s.hs N []) (e3 : s'.wr = updF s.wr N false) : Gl n (N + 1) T (updF q N (startS N l s').1) (startS N l s').2 ts := by
  obtain ⟨g1, g2, g3, _, g5, _, _, _⟩ := startS_facts N l s'
  have hw := Wk.start (n := n) (j := N) l s'
  refine ⟨by rw [g2, e1]; exact h.ok, by rw [g2, e1]; exact h.ch, ?_, by rw [g2, e1]; exact h.cnt, fun j hj => ?_, fun j hj => ?_, fun j hj => ?_, by rw [g2, e1]; exact h.fit⟩
  · rw [g3, e2, allH_succ, updF_same, List.append_nil, allH_congr (g := s.hs) N (fun i hi => updF_ne _ _ (by omega))]
    exact h.perm
  · by_cases e : j = N
    · subst e; rw [updF_same]; exact hw
    · rw [updF_ne _ _ e, g2, g3, e1, e2, updF_ne _ _ e]
      exact h.wk j (by omega)
  · by_cases e : j = N
    · subst e; rw [updF_same]; exact g1
    · rw [updF_ne _ _ e]; exact h.j j (by omega)
  · rw [g5, e3]
    by_cases e : j = N
    · subst e; rw [updF_same]
    · rw [updF_ne _ _ e]; exact h.wr j (by omega)

/-- code that never pops. -/
def NoPop (q : SPr) : Prop := (q.m = .done ∨ (∃ i, q.m = .pushR i) ∨ (∃ i o, q.m = .pushS i o) ∨ ∃ i o, q.m = .pushT i o) ∧ ∀ b, b ∈ q.l → b = false
theorem NoPop.start {j : Nat} : ∀ (l : List Bool) (s : SSt), (∀ b, b ∈ l → b = false) → NoPop (startS j l s).1
  | [], s, _ => ⟨.inl rfl, fun b hb => by cases hb⟩
  | true :: l, s, h => absurd (h true (by simp)) (by simp)
  | false :: l, s, h => by
    show NoPop (match (s.hs j).getLast? with | none => startS j l s | some i => (⟨j, .pushR i, l⟩, s)).1
    cases hl : (s.hs j).getLast? with
    | none => exact NoPop.start l s fun b hb => h b (by simp [hb])
    | some i => exact ⟨.inr (.inl ⟨i, rfl⟩), fun b hb => h b (by simp [hb])⟩
theorem NoPop.step {P : SP} {q : SPr} (h : NoPop q) (s : SSt) : NoPop (skStep P q s).1 := by
  obtain ⟨j, m, l⟩ := q
  obtain ⟨hm, hl⟩ := h
  cases m with
  | done => exact ⟨.inl rfl, hl⟩
  | popR => rcases hm with h | ⟨_, h⟩ | ⟨_, _, h⟩ | ⟨_, _, h⟩ <;> cases h
  | popN o => rcases hm with h | ⟨_, h⟩ | ⟨_, _, h⟩ | ⟨_, _, h⟩ <;> cases h
  | popT o y => rcases hm with h | ⟨_, h⟩ | ⟨_, _, h⟩ | ⟨_, _, h⟩ <;> cases h
  | pushR i => exact ⟨.inr (.inr (.inl ⟨_, _, rfl⟩)), hl⟩
  | pushS i o => exact ⟨.inr (.inr (.inr ⟨_, _, rfl⟩)), hl⟩
  | pushT i o =>
    unfold skStep
    dsimp only
    split
    · exact NoPop.start l _ hl
    · exact ⟨.inr (.inl ⟨i, rfl⟩), hl⟩
theorem Gl.runs {P : SP} {q : SPr} {d : Nat} (h : Gl n 1 T (fun _ => q) s ts) (hq : NoPop q) (hn : n ≤ 1000) : ∀ m, T + m < 4000000000 → (∃ ts', Gl n 1 (T + m) (fun _ => ((SM P).runN q s d m).1) ((SM P).runN q s d m).2.1 ts') ∧ NoPop ((SM P).runN q s d m).1
  | 0, _ => ⟨⟨ts, h⟩, hq⟩
  | m + 1, hT => by
    obtain ⟨⟨ts', h1⟩, h2⟩ := Gl.runs h hq hn m (by omega)
    show (∃ ts'', Gl n 1 (T + (m + 1)) (fun _ => (SM P).sQ _ _) ((SM P).sS _ _) ts'') ∧ NoPop ((SM P).sQ _ _)
    unfold Gm.sQ Gm.sS
    split
    · exact ⟨⟨ts', h1.ok, h1.ch, h1.perm, by have := h1.cnt; omega, h1.wk, h1.j, h1.wr, h1.fit⟩, h2⟩
    · obtain ⟨ts2, h3⟩ := h1.step (P := P) (j := 0) (by omega) (by omega) hn (fun e => by rcases h2.1 with h | ⟨_, h⟩ | ⟨_, _, h⟩ | ⟨_, _, h⟩ <;> (rw [h] at e; cases e))
      exact ⟨⟨ts2, h3.congr fun j hj => by
        obtain rfl : j = 0 := by omega
        rw [updF_same]
        rfl⟩, h2.step _⟩
end

end Go.Proofs.Ythjbmaeoogophaa

/- Layer 8: StackSoon. -/
namespace Go.Proofs.Ythjbmaeoogophaa
open Go.RowKit Go.ChangeShapes Go.WideShapes
set_option maxRecDepth 100000

/-- while tasks are made. -/
structure Ms (w0 : World) (p bx B0 k r t : Nat) (tv : Value) (W : World) : Prop where
  at_ : ∃ (P : SP) (ts : Nat → Nat) (qs : Nat → SPr) (s : SSt), Mk P r r ts qs s W ∧ P.nw = t ∧ P.n = k ∧ P.B = B0 ∧ P.p = p ∧ (SM P).Bx W bx 27 (stC P) ∧ VRow W B0 35 tv ((List.range t).map fun i => ptr (ts i)) ∧ Inv8 P t ⟨s, qs, fun _ => 0, 0⟩
  be : Below B0 w0 W

theorem Ms.start {w0 W : World} {p c bx B0 k r : Nat} (ha : Arena W p c (List.replicate (k + 1) 0) 0) (h1 : B0 ≤ p) (h2 : B0 ≤ c) (h3 : p ≠ c) (hk : k ≤ 1000) (hr : r ≤ 5000) (hb : Lies W bx 27 (chC p 0 38 #[])) (be : Below B0 w0 W) : Ms w0 p bx B0 k r 0 (.slice none 0 0) W := by
  have hws : (⟨p, c, B0, k, 0, fun _ => 0, fun _ => none, []⟩ : SP).ws = [] := rfl
  have hL : (⟨p, c, B0, k, 0, fun _ => 0, fun _ => none, []⟩ : SP).L = [p, c] := rfl
  refine ⟨⟨⟨p, c, B0, k, 0, fun _ => 0, fun _ => none, []⟩, fun _ => 0, fun _ => ⟨0, .done, []⟩, ⟨List.replicate (k + 1) 0, 0, fun _ => [], fun _ => [], fun _ => false, fun _ => false, fun _ => false⟩, ⟨⟨⟨h1, h2, fun j hj => absurd hj (Nat.not_lt_zero _), fun j g hj => absurd hj (Nat.not_lt_zero _)⟩, fun i j hi => absurd hi (Nat.not_lt_zero _), fun i j g hi => absurd hi (Nat.not_lt_zero _), ⟨h3, fun j hj => absurd hj (Nat.not_lt_zero _), fun j g hj => absurd hj (Nat.not_lt_zero _), fun i j g hi => absurd hi (Nat.not_lt_zero _)⟩, hk⟩, fun j hj => rfl, fun b hb => (by cases hb), ⟨ha, by show (0 : Int) + r ≤ _; omega, sok_zero k, fun j hj => absurd hj (Nat.not_lt_zero _), fun j g hj => absurd hj (Nat.not_lt_zero _), fun j hj => absurd hj (Nat.not_lt_zero _), fun j hj => absurd hj (Nat.not_lt_zero _), fun a b h => (by rw [hws] at h; cases h), fun b hb => (by cases hb)⟩, fun j hj => absurd hj (Nat.not_lt_zero _), fun i j hi => absurd hi (Nat.not_lt_zero _), fun _ => rfl⟩, rfl, rfl, rfl, rfl, ⟨hb, fun hm => ?_, fun q => ?_, by decide, fun hm => (by cases hm)⟩, VRow.nil _ _ _, ⟨by show 0 < (List.replicate (k + 1) (0 : Int)).length; simp, fun i hi => absurd hi (Nat.not_lt_zero _), fun i hi => absurd hi (Nat.not_lt_zero _), fun i hi => absurd hi (Nat.not_lt_zero _), fun i hi => absurd hi (Nat.not_lt_zero _), fun i hi => absurd hi (Nat.not_lt_zero _)⟩⟩, be⟩
  · have hm : bx ∈ [p, c] := hm
    simp at hm
    rcases hm with rfl | rfl
    · exact hb.unlike ha.head (by decide) rfl
    · exact hb.unlike ha.body (by decide) rfl
  · obtain ⟨a, ha, _⟩ := q
    have ha : a ∈ ([] : List Addr) := ha
    cases ha

section
variable {P : SP} {w0 W wc W2 W4 : World} {p bx B0 k r : Nat} {ts : Nat → Nat} {qs : Nat → SPr} {s : SSt} {v cv tv tv' : Value} {hs : List Int} {ex K1 : List Nat}
/-- a worker more: its state ahead of its code. -/
def SSt.add (s : SSt) (j : Nat) (hs : List Int) : SSt := { s with hs := updF s.hs j hs, bu := updF s.bu j false, ba := updF s.ba j false, wr := updF s.wr j false }
theorem Mk.begin {m : Nat} (h : Mk P m r ts qs s W) (k1 : Turns K1 W wc) (hK1 : ∀ g, g ∈ K1 → g ∈ P.ex ∧ ∃ cs, Lies W g 30 cs) (hexl : ∀ g, g ∈ ex → g < wc.heap.size) (hl : Lies wc W.heap.size 34 #[v, .pointer none, .bool false, .bool false, .bool false]) (ho : wc.ownsRow P.B 3 1 v hs.length (intVs hs)) (hnew : ∀ g, v.ownBlock = some g → W.heap.size ≤ g) (hr : ∀ i, i ∈ hs → 0 ≤ i ∧ i < P.n) (hz : hs.length ≤ 1) (hr4 : r ≤ 4000) :
    (P.one W.heap.size ex).Good ∧ SI (P.one W.heap.size ex) r (s.add P.nw hs) wc := by
  have okw := (sm_ok P h.good).okw _ _ _ h.si
  have a1 := h.si.ar.head.lt
  have a2 := h.si.ar.body.lt
  have hb : P.B ≤ W.heap.size := okw.base
  exact ⟨h.good.one h.gp hb (by omega) (by omega) (fun j hj e => by
    obtain ⟨_, hw, _⟩ := h.si.wk j hj
    have := hw.lt
    omega), h.si.one_more h.gp h.good k1 (fun g hg => by
    obtain ⟨_, cs, hl⟩ := hK1 g hg
    exact h.si.apart_ty hl (by decide) (by decide) (by decide) (by decide) (.inl (by decide))) hexl hl ho hnew hr (by have := h.gt P.nw; omega)⟩

theorem Ms.next (h : Mk P r r ts qs s W) (hn : P.n = k) (hB : P.B = B0) (hp : P.p = p) (hbox : (SM P).Bx W bx 27 (stC P)) (hv : VRow W B0 35 tv ((List.range P.nw).map fun i => ptr (ts i))) (hinv : Inv8 P P.nw ⟨s, qs, fun _ => 0, 0⟩) (be : Below B0 w0 W)
    (k1 : Turns K1 W wc) (hK1 : ∀ g, g ∈ K1 → g ∈ P.ex ∧ ∃ cs, Lies W g 30 cs) (hexn : ∀ g, g ∈ ex → W.heap.size ≤ g) (hl : Lies wc W.heap.size 34 #[v, .pointer none, .bool false, .bool false, .bool false]) (hnew : ∀ g, v.ownBlock = some g → W.heap.size ≤ g) (hr : ∀ i, i ∈ hs → 0 ≤ i ∧ i < P.n) (hG1 : (P.one W.heap.size ex).Good) (hi1 : SI (P.one W.heap.size ex) r (s.add P.nw hs) wc)
    (l : List Bool) (h12 : l.length ≤ 12) (f2 : Fr (P.one W.heap.size ex).L (P.one W.heap.size ex).ws wc W2) (hi2 : SI (P.one W.heap.size ex) r (startS P.nw l (s.add P.nw hs)).2 W2) (hc2 : ∀ x : More, ((P.one W.heap.size ex).up x).Good → x.From W2.heap.size → (SM ((P.one W.heap.size ex).up x)).Code r (startS P.nw l (s.add P.nw hs)).1 cv W2)
    (hv4 : VRow W4 B0 35 tv' ((List.range P.nw).map (fun i => ptr (ts i)) ++ [ptr W2.heap.size])) (t4 : Turns tv.ownBlock.toList (W2.alloc (.cells #[cv, .int .i64 0] 89)) W4) : Ms w0 p bx B0 k r (P.nw + 1) tv' W4 := by
  obtain ⟨g1, g2, g3, g4, _, g6, _, g8⟩ := startS_facts P.nw l (s.add P.nw hs)
  have hM1 := sm_ok _ hG1
  have k3 : Turns [] W2 (W2.alloc (.cells #[cv, .int .i64 0] 89)) := (Turns.refl _ _).alloc _
  have l3 : Lies (W2.alloc (.cells #[cv, .int .i64 0] 89)) W2.heap.size 89 #[cv, .int .i64 0] := Lies.new _ _ _
  generalize (W2.alloc (.cells #[cv, .int .i64 0] 89)) = W3 at *
  have hi3 := hi2.turns k3 (by simp)
  have hKL1 : ∀ g, g ∈ K1 → g ∉ P.L ∧ ¬ Rw P.ws W g := fun g hg => by
    obtain ⟨_, cs, hl⟩ := hK1 g hg
    exact h.si.apart_ty hl (by decide) (by decide) (by decide) (by decide) (.inl (by decide))
  have notK : ∀ {g : Nat} {t : TypeId} {cs : Array Value}, Lies W g t cs → t ≠ 30 → g ∉ K1 := fun hl hne hm => by
    obtain ⟨_, cs, hl2⟩ := hK1 _ hm
    exact hl.unlike hl2 hne rfl
  have hvc := hv.turns k1 (fun g hg => by
    obtain ⟨_, cur, hl⟩ := hv.lies hg
    exact notK hl (by decide))
  have hv2 : VRow W2 B0 35 tv _ := hvc.frE hi1 f2 (by decide) (by decide) (by decide) (by decide) (.inl (by decide))
  have hv3 := hv2.turns k3 (by simp)
  have hcell : wc.cell? ⟨W.heap.size, 0, none⟩ = some v := hl.cell 0
  have hK : ∀ g, g ∈ tv.ownBlock.toList → P.B ≤ g ∧ ∃ cs, Lies W3 g 35 cs := fun g hg => by
    obtain ⟨h1, cur, h2⟩ := hv3.lies (g := g) (by simpa using hg)
    exact ⟨by omega, cur, h2⟩
  have hKL : ∀ g, g ∈ tv.ownBlock.toList → g ∉ (P.one W.heap.size ex).L ∧ ¬ Rw (P.one W.heap.size ex).ws W3 g := fun g hg => by
    obtain ⟨_, cs, h2⟩ := hK g hg
    exact hi3.apart_ty h2 (by decide) (by decide) (by decide) (by decide) (.inl (by decide))
  have mk := h.next (Nat.le_refl _) hexn k1 hK1 hG1 hi1 hcell hnew f2 hi2 hc2 (fun j => by rw [g4]; exact h.gt j) k3 l3 (Nat.le_refl _) t4 hK
  have box1 := Gm.Bx.one h.si h.good hbox (Nat.le_refl _) hexn k1 (fun g hg => (hKL1 g hg).1) (notK hbox.l (by decide)) hcell hnew
  have box2 := box1.mv f2.mv
  have box3 := box2.mv ((hM1.okw _ _ _ hi2).mv hM1 k3)
  have box4 := Gm.Bx.turns hG1 hi3 box3 t4 (fun g hg => (hKL g hg).1) (fun hg => by
    obtain ⟨_, cs, h2⟩ := hK _ hg
    exact h2.unlike box3.l (by decide) rfl)
  have b0 : B0 ≤ W.heap.size := by have : P.B ≤ W.heap.size := ((sm_ok P h.good).okw _ _ _ h.si).base; omega
  have be1 := be.trans (k1.below (fun g hg => by rw [← hB]; exact h.ex g (hK1 g hg).1) b0)
  have b1 : B0 ≤ wc.heap.size := Nat.le_trans b0 k1.size
  have be2 := be1.trans ((hi1.below hG1 (fun b hb => .inl hb) f2).mono (show B0 ≤ P.B by omega))
  have b2 := Nat.le_trans b1 f2.size
  have be3 := be2.trans (k3.below (by simp) b2)
  have be4 := be3.trans (t4.below (fun g hg => by rw [← hB]; exact (hK g hg).1) (Nat.le_trans b2 k3.size))
  have hh : ∀ i, i < P.nw → (startS P.nw l (s.add P.nw hs)).2.hs i = s.hs i := fun i hi => by rw [g3]; exact updF_ne _ _ (by omega)
  have hhn : (startS P.nw l (s.add P.nw hs)).2.hs P.nw = hs := by rw [g3]; exact updF_same _ _ _
  have hpos : ∀ i, i ∈ (s.add P.nw hs).hs P.nw → 0 ≤ i := fun i hi => by
    have hi : i ∈ updF s.hs P.nw hs P.nw := hi
    rw [updF_same] at hi
    exact (hr i hi).1
  refine ⟨⟨P.one W.heap.size ex, _, _, _, mk, rfl, hn, hB, hp, box4, ?_, ⟨by show 0 < (startS P.nw l (s.add P.nw hs)).2.l.length; rw [g2]; exact hinv.len, fun i hi => ?_, fun i hi => ?_, fun i hi => ?_, fun i hi => ?_, fun i hi => ?_⟩⟩, be4⟩
  · rw [List.range_succ, List.map_append]
    have e : (List.range P.nw).map (fun i => ptr (updF ts P.nw W2.heap.size i)) = (List.range P.nw).map (fun i => ptr (ts i)) := List.map_congr_left fun i hi => by
      have := List.mem_range.1 hi
      rw [updF_ne _ _ (by omega)]
    rw [e, List.map_singleton, updF_same]
    exact hv4
  · show (updF qs P.nw _ i).j = i
    rcases (by omega : i < P.nw ∨ i = P.nw) with h1 | rfl
    · rw [updF_ne _ _ (by omega)]; exact hinv.j i h1
    · rw [updF_same]; exact g1
  · show qok (updF qs P.nw _ i)
    rcases (by omega : i < P.nw ∨ i = P.nw) with h1 | rfl
    · rw [updF_ne _ _ (by omega)]; exact hinv.ok i h1
    · rw [updF_same]; exact g8 hpos
  · show ∀ y, y ∈ (startS P.nw l (s.add P.nw hs)).2.hs i → 0 ≤ y
    rcases (by omega : i < P.nw ∨ i = P.nw) with h1 | rfl
    · rw [hh i h1]; exact hinv.hs i h1
    · rw [hhn]; exact fun y hy => (hr y hy).1
  · show (SM P).W (updF qs P.nw _ i) _
    rcases (by omega : i < P.nw ∨ i = P.nw) with h1 | rfl
    · rw [updF_ne _ _ (by omega)]
      exact W_hs (hinv.w i h1) (by rw [hinv.j i h1]; exact hh i h1)
    · rw [updF_same]; exact W_start _ _ _
  · show (updF qs P.nw _ i).l.length ≤ 12
    rcases (by omega : i < P.nw ∨ i = P.nw) with h1 | rfl
    · rw [updF_ne _ _ (by omega)]; exact hinv.l i h1
    · rw [updF_same]; omega
end

end Go.Proofs.Ythjbmaeoogophaa

/- Layer 8: bare: who pops notes that there is nothing. -/
namespace Go.Proofs.Ythjbmaeoogophaa
open Go.RowKit Go.ChangeShapes Go.WideShapes
set_option maxRecDepth 100000

section
variable {P : SP} {r : Nat} {s : SSt} {W : World}
theorem SI.lists (hG : P.Good) (h : SI P r s W) (v : World → Prop) (hv : v W) : Calls Try.prog 20 #[stV P] W fun e w' => ∃ u, e = .returned u ∧ IRow w' W.heap.size u (chL s.l (fun i => i + 1) s.l.length (hIx (getA s.l 0))) ∧ Below W.heap.size W w' ∧ v W := by
  have hd := One.dom h.ok (fun i => h.ar.fitA i) hG.few
  refine (stlist_any P.p P.c 0 38 #[] (fun i => i + 1) s.l s.k W h.ar ent_link (by have := h.ok.len; have := hG.few; omega) (fun i => 0 ≤ i ∧ i < P.n) (fun i hi => by have := hG.few; omega) hd.1 hd.2 (fun W i hi => (link_any i (by have := hG.few; unfold Ix; omega) W).mono fun e w2 h => ⟨h.1, by rw [h.2]; exact Turns.refl _ _⟩)).mono ?_
  rintro e w' ⟨u, e1, e2, e3⟩
  exact ⟨u, e1, e2, e3, hv⟩
theorem chL_len {l : List Int} {lk : Int → Int} {x : Int} (hl : 0 < l.length) : 0 < (chL l lk l.length x).length ↔ x ≠ -1 := by
  obtain ⟨d, hd⟩ : ∃ d, l.length = d + 1 := ⟨l.length - 1, by omega⟩
  rw [hd]
  show 0 < (if x = -1 then [] else x :: chL l lk d (lkd (getA l (lk x)))).length ↔ _
  by_cases h : x = -1
  · simp [h]
  · simp [h]

/-- workers' slice, as it lies. -/
def WRow (P : SP) (g N : Nat) (W : World) : Prop := ∀ i, i < N → W.cell? ⟨g, i, none⟩ = some (ptr (P.wb i))

/-- some workers have noted it. -/
def SSt.noted (s : SSt) (m : Nat) : SSt := { s with ba := fun j => if j < m then true else s.ba j }
theorem SSt.noted_zero (s : SSt) : s.noted 0 = s := by
  unfold SSt.noted
  simp
theorem SSt.noted_succ (s : SSt) (m : Nat) : (s.noted m).mark m 3 true = s.noted (m + 1) := by
  unfold SSt.noted SSt.mark
  simp only [if_false, show ¬ ((3 : Nat) = 2) by omega, if_true]
  congr 1
  funext j
  unfold updF
  by_cases h : j = m
  · subst h; simp
  · by_cases h2 : j < m
    · simp [h, h2, show j < m + 1 by omega]
    · simp [h, h2, show ¬ j < m + 1 by omega]

set_option maxHeartbeats 1000000 in
theorem bare_any (hG : P.Good) (h : SI P r s W) {A : Option Addr} {cp : Nat} (hA : 0 < P.nw → ∃ g, A = some ⟨g, 0, none⟩ ∧ g ∉ P.L ∧ ¬ Rw P.ws W g ∧ g < W.heap.size ∧ WRow P g P.nw W) (hn : P.nw ≤ 100) :
    Calls Try.prog 22 #[stV P, .slice A P.nw cp] W fun e w' => e = .returned (.tuple #[]) ∧ ∃ s', SI P r s' w' ∧ s'.l = s.l ∧ s'.k = s.k ∧ s'.hs = s.hs ∧ s'.gt = s.gt ∧ s'.bu = s.bu ∧ s'.wr = s.wr ∧ (hIx (getA s.l 0) = -1 → ∀ j, j < P.nw → s'.ba j = true) ∧ Fr P.L P.ws W w' := by
  have hM := sm_ok P hG
  have k0 : Turns [] W (W.alloc (.cells (stC P) 27)) := (Turns.refl _ _).alloc _
  have l0 : Lies (W.alloc (.cells (stC P) 27)) W.heap.size 27 (stC P) := Lies.new _ _ _
  have h1 := h.turns k0 (by simp)
  have hls := h1.lists hG (fun _ => True) trivial
  have f0 := (hM.okw _ _ _ h).fr hM k0
  obtain ⟨c0, c1, c2⟩ : (W.alloc (.cells (stC P) 27)).cell? ⟨W.heap.size, 0, none⟩ = some (ptr P.p) ∧ (W.alloc (.cells (stC P) 27)).cell? ⟨W.heap.size, 1, none⟩ = some (.int .i64 0) ∧ (W.alloc (.cells (stC P) 27)).cell? ⟨W.heap.size, 2, none⟩ = some (.func (.func 38) #[] #[]) := ⟨l0.cell 0, l0.cell 1, l0.cell 2⟩
  have hpos : 0 < s.l.length := by have := h.ok.len; omega
  have hcl := chL_len (l := s.l) (lk := fun i => i + 1) (x := hIx (getA s.l 0)) hpos
  obtain ⟨n0, hn0⟩ : ∃ n0, (chL s.l (fun i => i + 1) s.l.length (hIx (getA s.l 0))).length = n0 := ⟨_, rfl⟩
  have hchlen : n0 ≤ 100000 := by
    rw [← hn0]
    have : ∀ (n : Nat) (x : Int), (chL s.l (fun i => i + 1) n x).length ≤ n := by
      intro n
      induction n with
      | zero => intro x; exact Nat.le_refl _
      | succ n ih =>
        intro x
        show (if x = -1 then [] else x :: chL s.l (fun i => i + 1) n (lkd (getA s.l (x + 1)))).length ≤ _
        split
        · simp
        · simp; exact ih _
    have h2 := this s.l.length (hIx (getA s.l 0))
    have := h.ok.len
    have := hG.few
    omega
  rw [hn0] at hcl
  have HCL := Lib.hid hcl
  have HN0 := Lib.hid hn0
  go_enter Try.func22, Try.ntmps22
  go_wp2_with fail
  refine hls.mono ?_
  rintro e W2 ⟨u, rfl, hru, b2, _⟩
  obtain ⟨A2, c2', hu, _⟩ := hru.row
  rw [HN0.out] at hu
  subst hu
  have t2 : Turns [] _ W2 := Turns.of_below (L := []) b2 (Nat.le_refl _)
  have h2 := h1.turns t2 (by simp)
  have f2 := f0.trans ((hM.okw _ _ _ h1).fr hM t2)
  have HS : Hid (s.noted 0 = s) := Lib.hid (SSt.noted_zero s)
  clear hls l0 k0 c0 c1 c2 hru hcl hn0 b2 t2 hpos
  by_cases hp : 0 < n0
  · have hne := HCL.out.1 hp
    have hp' : (0 : Int) < n0 := by omega
    have F : ∃ s', SI P r s' W2 ∧ s'.l = s.l ∧ s'.k = s.k ∧ s'.hs = s.hs ∧ s'.gt = s.gt ∧ s'.bu = s.bu ∧ s'.wr = s.wr ∧ (hIx (getA s.l 0) = -1 → ∀ j, j < P.nw → s'.ba j = true) ∧ Fr P.L P.ws W W2 := ⟨s, h2, rfl, rfl, rfl, rfl, rfl, rfl, fun e => absurd e hne, f2⟩
    clear hA h1 h2 h f0 f2
    go_wp2
    first | (refine bodyPost_ret (results_none rfl _ _ _) rfl ?_) | ((try simp only [Exit.inBlock, Exit.then]); refine bodyPost_end (results_none rfl _ _ _) rfl ?_)
    exact ⟨rfl, F⟩
  · obtain rfl : n0 = 0 := by omega
    go_wp2_with fail
    go_loopw [5, 12] (fun _ i W3 => ∃ m : Nat, i = .int .i64 (m : Int) ∧ m ≤ P.nw ∧ SI P r (s.noted m) W3 ∧ Fr P.L P.ws W2 W3) (fun _ i _ => P.nw - (intOf i).toNat)
    case atStart => exact ⟨0, rfl, Nat.zero_le _, by rw [HS.out]; exact h2, Fr.refl _ _ _⟩
    case round =>
      obtain ⟨m, rfl, hmn, h3, f3⟩ := hrel
      generalize wr = W3 at *
      by_cases hm : m < P.nw
      · obtain ⟨g, rfl, hg, hr, hgl, hw⟩ := hA (by omega)
        have hw2 : WRow P g P.nw W2 := fun i hi => (f2.cell (p := ⟨g, i, none⟩) hgl hg hr).trans (hw i hi)
        have hr2 := f2.row hgl hr
        have hgl2 := Nat.lt_of_lt_of_le hgl f2.size
        have hc := (f3.cell (p := ⟨g, m, none⟩) hgl2 hg hr2).trans (hw2 m hm)
        obtain ⟨v, hl, _⟩ := h3.wk m hm
        have q3 : W3.cell? ⟨P.wb m, 3, none⟩ = some (.bool ((s.noted m).ba m)) := hl.cell 3
        have q4 : W3.frozen? ⟨P.wb m, 3, none⟩ = false := hl.frozen 3
        have m4 := h3.mark hG m hm 3 (.inr (.inl rfl)) true
        have n4 := h3.mark_fr hG m hm 3 (.inr (.inl rfl)) true
        rw [SSt.noted_succ] at m4
        have F := And.intro m4 (f3.trans n4)
        clear hl h3 f3 hw2 hw h2 h1 h m4 n4 f2 f0 hr2 hgl2 hA hg hr hgl
        go_wp2_with fail
        go_roundw
        case rel => exact ⟨m + 1, by go_num, by omega, F.1, F.2⟩
        case measure => simp [intOf]; omega
      · obtain rfl : m = P.nw := by omega
        have F : ∃ s', SI P r s' W3 ∧ s'.l = s.l ∧ s'.k = s.k ∧ s'.hs = s.hs ∧ s'.gt = s.gt ∧ s'.bu = s.bu ∧ s'.wr = s.wr ∧ (hIx (getA s.l 0) = -1 → ∀ j, j < P.nw → s'.ba j = true) ∧ Fr P.L P.ws W W3 := ⟨_, h3, rfl, rfl, rfl, rfl, rfl, rfl, fun _ j hj => if_pos hj, f2.trans f3⟩
        clear hA h1 h2 h f0 f2 h3 f3
        go_wp2
        first | (refine bodyPost_ret (results_none rfl _ _ _) rfl ?_) | ((try simp only [Exit.inBlock, Exit.then]); refine bodyPost_end (results_none rfl _ _ _) rfl ?_)
        exact ⟨rfl, F⟩
end

end Go.Proofs.Ythjbmaeoogophaa
