/- Layer 8's workers: the arena, what a Pop and a Push do. -/
import Derived.Test.YthjbmaeoogophaaU2
import Derived.StillTailTactics
import Derived.Deep.RegionHeld3
import Derived.RegionTactic
import Derived.Laws.OwnMore
import Derived.OwnWalk
import Derived.BigRegion
import Derived.BigQuiet
import Derived.Deep.RegionLaw
import Derived.Handy
import Derived.WalkSpells
import Derived.Lib.Hide
namespace Go.Proofs.Ythjbmaeoogophaa
open Go.RowKit
set_option maxRecDepth 100000

theorem getA_setA (l : List Int) (i j v : Int) : getA (setA l i v) j = if j = i ∧ hasA l i = true then v else getA l j := by
  rcases hasA_cases l i with hi | ⟨n, rfl, hn⟩
  · rw [setA_out hi, if_neg (by rw [hi]; simp)]
  · rw [setA_nat hn, hasA_yes hn]
    by_cases hj : j = (n : Int)
    · subst hj
      rw [if_pos ⟨rfl, rfl⟩, getA_nat (by simpa using hn)]
      simp
    · rw [if_neg (by simp [hj])]
      rcases hasA_cases l j with h | ⟨m, rfl, hm⟩
      · rw [getA_out h, getA_out]
        unfold hasA at h ⊢
        simpa using h
      · rw [getA_nat hm, getA_nat (by simpa using hm)]
        have : n ≠ m := fun e => hj (by rw [e])
        simp [this]
theorem getA_casA (l : List Int) (i j o v : Int) : getA (casA l i o v) j = if j = i ∧ casB l i o = true then v else getA l j := by
  unfold casA
  cases h : casB l i o with
  | false => simp
  | true =>
    simp only [if_true]
    rw [getA_setA]
    have : hasA l i = true := by unfold casB at h; simp at h; exact h.1
    simp [this]
theorem hIx_newH {v i : Int} (hi : Ix0 i) : hIx (newH v i) = i := by unfold Ix0 at hi; unfold hIx newH; omega
theorem hCt_newH {v i : Int} (hi : Ix0 i) : hCt (newH v i) = (hCt v + 1) % 4294967296 := by unfold Ix0 at hi; unfold newH; unfold hCt; omega

section
variable {n : Nat} {l : List Int}
theorem SOk.turn (h : SOk n l) {o i : Int} (hi : Ix0 i) (hn : i < n) : SOk n (casA l 0 o (newH o i)) := by
  refine ⟨by rw [casA_len]; exact h.len, ?_, fun j hj => ?_⟩
  · rw [getA_casA]
    split
    · exact ⟨newH_in hi, by rw [hIx_newH hi]; exact hn⟩
    · exact h.head
  · rw [getA_casA, if_neg (by omega)]
    exact h.link j hj
theorem SOk.lay (h : SOk n l) {o i : Int} (ho : hIx o < n) (hi : 0 ≤ i) : SOk n (setA l (i + 1) (hIx o + 1)) := by
  refine ⟨by rw [setA_length]; exact h.len, ?_, fun j hj => ?_⟩
  · rw [getA_setA, if_neg (by omega)]
    exact h.head
  · rw [getA_setA]
    split
    · omega
    · exact h.link j hj
end

section
variable {P : SP}
theorem SI.aft (hG : P.Good) {r : Nat} {s : SSt} {w w' : World} {l' : List Int} {k' : Int} (h : SI P (r + 1) s w) (ha : Aft w P.p P.c l' k' w') (ho : SOk P.n l') (hk : k' ≤ s.k + 1) : (SM P).J r { s with l := l', k := k' } w' := by
  obtain ⟨_, s2, s3, _⟩ := hG.sep
  have out : ∀ {b : Nat}, b ≠ P.p → b ≠ P.c → b ∉ [P.p, P.c] := fun h1 h2 => by simp; exact ⟨h1, h2⟩
  have own : ∀ {v : Value} {n : Nat} {xs : List Value}, w.ownsRow P.B 3 1 v n xs → w'.ownsRow P.B 3 1 v n xs := fun hr => own_keep hr fun g hg => by
    obtain ⟨_, cur, hl⟩ := own_block hr hg
    exact ha.2.block g hl.lt (out (hl.unlike h.ar.head (by decide)) (hl.unlike h.ar.body (by decide)))
  have cl : ∀ a, a ∈ P.ws → w'.cell? a = w.cell? a := fun a hm => by
    rcases SP.ws_mem.1 hm with ⟨j, hj, rfl⟩ | ⟨j, g, hj, hg, rfl⟩
    · obtain ⟨v, hl, _⟩ := h.wk j hj
      exact ha.2.cell hl.lt (out (s2 j hj).1 (s2 j hj).2)
    · obtain ⟨v, hl, _⟩ := h.gt j g hj hg
      exact ha.2.cell hl.lt (out (s3 j g hj hg).1 (s3 j g hj hg).2)
  refine ⟨⟨ha.1, by have := h.room; show k' + _ ≤ _; omega, ho, fun j hj => ?_, fun j g hj hg => ?_, h.hb, fun j hj => ⟨by have := (h.size j hj).1; show (s.hs j).length + _ ≤ _; omega, by have := (h.size j hj).2; show (s.gt j).length + _ ≤ _; omega⟩, fun a b h1 h2 hab g o n c o' n' c' e => ?_, fun b hb => Nat.lt_of_lt_of_le (h.exl b hb) ha.2.size⟩, fun j hj => ⟨by have := (h.size j hj).1; show (s.hs j).length + _ + 1 ≤ _; omega, by have := (h.size j hj).2; show (s.gt j).length + _ + 1 ≤ _; omega⟩⟩
  · obtain ⟨v, hl, hr⟩ := h.wk j hj
    exact ⟨v, hl.turn ha.2 (out (s2 j hj).1 (s2 j hj).2), own hr⟩
  · obtain ⟨v, hl, hr⟩ := h.gt j g hj hg
    exact ⟨v, hl.turn ha.2 (out (s3 j g hj hg).1 (s3 j g hj hg).2), own hr⟩
  · rw [cl a h1] at e
    rw [cl b h2]
    exact h.apart a b h1 h2 hab g o n c o' n' c' e

def smAr (P : SP) (hG : P.Good) : (SM P).Ar P.p P.c where
  l s := s.l
  k s := s.k
  put s l k := { s with l := l, k := k }
  hp := SP.L_mem.2 (.inl rfl)
  hc := SP.L_mem.2 (.inr (.inl rfl))
  sep a ha := by
    obtain ⟨_, s2, s3, _⟩ := hG.sep
    have ha : a ∈ P.ws := ha
    rcases SP.ws_mem.1 ha with ⟨j, hj, rfl⟩ | ⟨j, g, hj, hg, rfl⟩
    · exact s2 j hj
    · exact s3 j g hj hg
  ok := SOk P.n
  okI r s w h := h.ok
  ar r s w h := h.ar
  room r s w h := by have := SI.room h; omega
  aft r s w w' l' k' h ha ho _ hk := SI.aft hG h ha ho hk

theorem sm_ch (P : SP) (hG : P.Good) : Gm.ChOk (smAr P hG) 0 (fun i => i + 1) (fun o => hIx o < P.n) (fun x => x ≤ P.n) (fun i => 0 ≤ i ∧ i < P.n) where
  hd l h := h.head.2
  nx l o h ho hn := by
    have h1 := hIx_ix hn
    unfold Ix at h1
    obtain ⟨j, hj⟩ := Int.eq_ofNat_of_zero_le h1.1
    have := h.link j (by omega)
    rw [hj]
    exact this
  tk l o x h ho _ _ hx hu := by
    have hin := nxOf_in hx
    have : nxOf x < P.n := by unfold nxOf; split <;> omega
    exact SOk.turn h hin this
  ly l o i h ho hy := SOk.lay h ho hy.1
  tn l o i h _ _ hy := by
    have := hG.few
    exact SOk.turn h (by unfold Ix0; omega) hy.2
  ix i hy := by have := hG.few; unfold Ix; omega
  room l i h hy := by
    have hl := h.len
    constructor
    · rw [hasA_iff]; omega
    · rw [hasA_iff]; omega

theorem sm_pop (P : SP) (hG : P.Good) (j : Nat) (l : List Bool) : Gm.PopQ (smAr P hG) 0 (fun i => i + 1) ⟨j, .popR, l⟩ (fun o => ⟨j, .popN o, l⟩) (fun o y => ⟨j, .popT o y, l⟩) (fun _ _ _ => True) (fun i ok s => startS j l (s.popped (P.has j) j i ok)) where
  eR := rfl
  eN _ := rfl
  eT _ _ := rfl
  sR _ := rfl
  sN _ _ := rfl
  sT _ _ _ := rfl
  wR _ _ _ _ := trivial
  wT _ _ _ _ _ _ := trivial

theorem sm_push (P : SP) (hG : P.Good) (j : Nat) (i : Int) (l : List Bool) : Gm.PushQ (smAr P hG) 0 (fun i => i + 1) i ⟨j, .pushR i, l⟩ (fun o => ⟨j, .pushS i o, l⟩) (fun o => ⟨j, .pushT i o, l⟩) (fun s => s.hs j ≠ []) (fun s => startS j l (s.pushed j)) where
  eR := rfl
  eS _ := rfl
  eT _ := rfl
  sR _ := rfl
  sS _ _ := rfl
  sT _ _ := rfl
  wT _ _ _ hw _ := hw

theorem ent_link : Ent 38 := ent_of Try.func38 (by kernel_rfl) (by kernel_rfl)
theorem link_any (i : Int) (hi : Ix i) (w : World) : Calls Try.prog 38 #[.int .i64 i] w fun e w' => e = .returned (.int .i64 (i + 1)) ∧ w' = w := by
  unfold Ix at hi
  go_enter Try.func38, Try.ntmps38
  go_wp2
  go_ret
  exact ⟨ret_int (by go_num), rfl⟩
theorem sm_lk (P : SP) (w : World) : (SM P).Lk w 38 #[] (fun i => i + 1) := ⟨ent_link, fun w' i _ hi => (link_any i hi w').mono fun e w2 h => ⟨h.1, by rw [h.2]; exact Turns.refl _ _⟩⟩
end

end Go.Proofs.Ythjbmaeoogophaa

/- Layer 8's workers: their marks and rows written; slices of bools. -/
namespace Go.Proofs.Ythjbmaeoogophaa
open Go.RowKit
set_option maxRecDepth 100000

/-- where the rest of a slice begins. -/
def tailO (A : Option Addr) (cp : Nat) : Option Addr := if cp = 1 then A else A.map (·.add 1)
theorem slice_tail1 {t : TypeId} {e : TypeId} (ht : Try.prog.underlying t = some (.slice e)) (h1 : (Try.prog.info? e).map (·.size) = some 1) (A : Option Addr) (n cp : Nat) (hk : 1 ≤ n) (W : World) :
    (Instr.sliceAt t (.slice A n cp) (some (.int .i64 1)) none none).run Try.prog W = .ok (.slice (tailO A cp) (n - 1) (cp - 1)) W := by
  obtain ⟨i, hi, hz⟩ := Option.map_eq_some_iff.1 h1
  unfold tailO
  simp [Instr.sliceAt, Instr.slice, run_underlying ht, Instr.sliceBounds, Instr.sliceBound, asIntOf, sizeOf, typeInfo, hi, hz]
  intro h; omega
/-- the first k of a slice. -/
def headO (A : Option Addr) (cp : Nat) : Option Addr := if cp = 0 then A else A.map (·.add 0)
theorem headO_some (g cp : Nat) : headO (some ⟨g, 0, none⟩) cp = some ⟨g, 0, none⟩ := by unfold headO; split <;> simp [Addr.add]
theorem slice_head1 {t : TypeId} {e : TypeId} (ht : Try.prog.underlying t = some (.slice e)) (h1 : (Try.prog.info? e).map (·.size) = some 1) (A : Option Addr) (n cp k : Nat) (hk : k ≤ cp) (W : World) :
    (Instr.sliceAt t (.slice A n cp) none (some (.int .i64 (k : Int))) none).run Try.prog W = .ok (.slice (headO A cp) k cp) W := by
  obtain ⟨i, hi, hz⟩ := Option.map_eq_some_iff.1 h1
  unfold headO
  simp [Instr.sliceAt, Instr.slice, run_underlying ht, Instr.sliceBounds, Instr.sliceBound, asIntOf, sizeOf, typeInfo, hi]
  intro h; omega

/-- bools in memory that nothing writes. -/
structure BL (P : SP) (w : World) (A : Option Addr) (bs : List Bool) : Prop where
  most : bs.length ≤ 100000
  at_ : 0 < bs.length → ∃ a, A = some a ∧ a.block < w.heap.size ∧ a.block ∉ P.L ++ P.ex ∧ ¬ Rw P.ws w a.block ∧ ¬ IsTask P.B w a.block ∧ ∀ i, i < bs.length → w.cell? (a.add i) = some (.bool (bs.getD i false))
section
variable {P : SP} {w w' : World} {A : Option Addr} {bs : List Bool}
theorem BL.mv (h : BL P w A bs) (k : Mv P.B (P.L ++ P.ex) P.ws w w') : BL P w' A bs :=
  ⟨h.most, fun hn => by
    obtain ⟨a, e, h1, h2, h3, h4, h5⟩ := h.at_ hn
    have hb : w'.heap[a.block]? = w.heap[a.block]? := by
      rcases k.block _ h1 h2 h3 with e | e
      · exact e
      · exact absurd e h4
    refine ⟨a, e, Nat.lt_of_lt_of_le h1 k.size, h2, k.row h1 h3, fun q => h4 (q.of_same hb.symm), fun i hi => ?_⟩
    exact (World.cell?_of_block (w := w) (by rw [add_block]; exact hb)).trans (h5 i hi)⟩
theorem BL.tail {b : Bool} {cp : Nat} (h : BL P w A (b :: bs)) (hc : bs.length + 1 ≤ cp) : BL P w (tailO A cp) bs :=
  ⟨by have := h.most; simp at this; omega, fun hn => by
    obtain ⟨a, rfl, h1, h2, h3, h4, h5⟩ := h.at_ (by simp)
    refine ⟨a.add 1, by unfold tailO; rw [if_neg (by omega)]; rfl, by rw [add_block]; exact h1, by rw [add_block]; exact h2, by rw [add_block]; exact h3, by rw [add_block]; exact h4, fun i hi => ?_⟩
    have := h5 (i + 1) (by simp; omega)
    rw [Go.Deep.add_add, show 1 + i = i + 1 by omega]
    simpa using this⟩
theorem BL.head {b : Bool} (h : BL P w A (b :: bs)) : ∃ a, A = some a ∧ w.cell? a = some (.bool b) := by
  obtain ⟨a, e, _, _, _, _, h5⟩ := h.at_ (by simp)
  have := h5 0 (by simp)
  refine ⟨a, e, ?_⟩
  have e0 : a.add 0 = a := by simp [Addr.add]
  rw [e0] at this
  simpa using this
end

/-- a mark of a worker. -/
def SSt.mark (s : SSt) (j k : Nat) (b : Bool) : SSt := if k = 2 then { s with bu := updF s.bu j b } else if k = 3 then { s with ba := updF s.ba j b } else { s with wr := updF s.wr j b }

section
variable {P : SP} {r : Nat} {s : SSt} {w : World}
theorem SI.in_ws (j : Nat) (hj : j < P.nw) : (⟨P.wb j, 0, none⟩ : Addr) ∈ P.ws := SP.ws_mem.2 (.inl ⟨j, hj, rfl⟩)
theorem SI.in_L (j : Nat) (hj : j < P.nw) : P.wb j ∈ P.L := SP.L_mem.2 (.inr (.inr (.inl ⟨j, hj, rfl⟩)))

theorem SI.mark (hG : P.Good) (h : SI P r s w) (j : Nat) (hj : j < P.nw) (k : Nat) (hk : k = 2 ∨ k = 3 ∨ k = 4) (b : Bool) : SI P r (s.mark j k b) (w.setCell ⟨P.wb j, k, none⟩ (.bool b)) := by
  obtain ⟨_, s2, s3, s4⟩ := hG.sep
  have e1 : (s.mark j k b).l = s.l ∧ (s.mark j k b).k = s.k ∧ (s.mark j k b).hs = s.hs ∧ (s.mark j k b).gt = s.gt := by
    unfold SSt.mark
    split
    · exact ⟨rfl, rfl, rfl, rfl⟩
    · split <;> exact ⟨rfl, rfl, rfl, rfl⟩
  obtain ⟨el, ek, eh, eg⟩ := e1
  have own : ∀ {v : Value} {n : Nat} {xs : List Value}, w.ownsRow P.B 3 1 v n xs → (w.setCell ⟨P.wb j, k, none⟩ (.bool b)).ownsRow P.B 3 1 v n xs := fun hr => own_keep hr fun g hg => by
    obtain ⟨_, cur, hl⟩ := own_block hr hg
    obtain ⟨v, hw, _⟩ := h.wk j hj
    exact Below.heap_setCell w ⟨P.wb j, k, none⟩ _ g (hl.unlike hw (by decide))
  have cl : ∀ a, a ∈ P.ws → (w.setCell ⟨P.wb j, k, none⟩ (.bool b)).cell? a = w.cell? a := fun a ha => by
    rcases SP.ws_mem.1 ha with ⟨i, hi, rfl⟩ | ⟨i, g, hi, hg, rfl⟩
    · by_cases hij : i = j
      · subst hij
        obtain ⟨v, hw, _⟩ := h.wk i hj
        rw [(hw.set k (.bool b)).cell 0, hw.cell 0, Array.getElem?_setIfInBounds, if_neg (by omega)]
      · exact World.cell?_of_block (w := w) (Below.heap_setCell w ⟨P.wb j, k, none⟩ _ _ (fun e => hij (hG.inj i j hi hj e)))
    · exact World.cell?_of_block (w := w) (Below.heap_setCell w ⟨P.wb j, k, none⟩ _ _ (fun e => s4 j i g hj hi hg e.symm))
  refine ⟨by rw [el, ek]; exact ⟨h.ar.head.far (p := ⟨P.wb j, k, none⟩) (s2 j hj).1.symm _, h.ar.body.far (p := ⟨P.wb j, k, none⟩) (s2 j hj).2.symm _, h.ar.pos, h.ar.most, h.ar.fit, h.ar.k0⟩, by rw [ek]; exact h.room, by rw [el]; exact h.ok, fun i hi => ?_, fun i g hi hg => ?_, by rw [eh]; exact h.hb, by rw [eh, eg]; exact h.size, fun a b' h1 h2 hab g o n c o' n' c' e => ?_, fun b' hb => by simpa [World.setCell] using h.exl b' hb⟩
  · rw [eh]
    obtain ⟨v, hl, hr⟩ := h.wk i hi
    by_cases hij : i = j
    · subst hij
      refine ⟨v, ?_, own hr⟩
      have := hl.set k (.bool b)
      unfold SSt.mark
      rcases hk with rfl | rfl | rfl
      · simpa [updF_same] using this
      · simpa [updF_same] using this
      · simpa [updF_same] using this
    · refine ⟨v, ?_, own hr⟩
      have := hl.far (p := ⟨P.wb j, k, none⟩) (fun e => hij (hG.inj i j hi hj e)) (.bool b)
      unfold SSt.mark
      split
      · simpa [updF_ne _ _ hij] using this
      · split
        · simpa [updF_ne _ _ hij] using this
        · simpa [updF_ne _ _ hij] using this
  · rw [eg]
    obtain ⟨v, hl, hr⟩ := h.gt i g hi hg
    exact ⟨v, hl.far (p := ⟨P.wb j, k, none⟩) (fun e => s4 j i g hj hi hg e.symm) _, own hr⟩
  · rw [cl a h1] at e
    rw [cl b' h2]
    exact h.apart a b' h1 h2 hab g o n c o' n' c' e

theorem SI.mark_fr (hG : P.Good) (h : SI P r s w) (j : Nat) (hj : j < P.nw) (k : Nat) (hk : k = 2 ∨ k = 3 ∨ k = 4) (b : Bool) : Fr P.L P.ws w (w.setCell ⟨P.wb j, k, none⟩ (.bool b)) := by
  obtain ⟨_, s2, s3, s4⟩ := hG.sep
  have tu := (Turns.refl [P.wb j] w).setCell (p := ⟨P.wb j, k, none⟩) (.inl (by simp)) (.bool b)
  refine ⟨tu.os, tu.tape, tu.output, tu.size, fun b' hb hn _ => tu.block b' hb (by simp; rintro rfl; exact hn (SI.in_L j hj)), fun b' _ hq => hq.same fun a ha => ?_⟩
  rcases SP.ws_mem.1 ha with ⟨i, hi, rfl⟩ | ⟨i, g, hi, hg, rfl⟩
  · by_cases hij : i = j
    · subst hij
      obtain ⟨v, hw, _⟩ := h.wk i hj
      rw [(hw.set k (.bool b)).cell 0, hw.cell 0, Array.getElem?_setIfInBounds, if_neg (by omega)]
    · exact World.cell?_of_block (w := w) (Below.heap_setCell w ⟨P.wb j, k, none⟩ _ _ (fun e => hij (hG.inj i j hi hj e)))
  · exact World.cell?_of_block (w := w) (Below.heap_setCell w ⟨P.wb j, k, none⟩ _ _ (fun e => s4 j i g hj hi hg e.symm))

/-- a row has turned: w1 is w but for the row that the cell a told, and a tells v' behind it. -/
structure RowTurn (P : SP) (w : World) (a : Addr) (v v' : Value) (w1 : World) : Prop where
  grow : w.grownBy w1 v.ownBlock
  was : w.cell? a = some v
  new : ∀ g, v'.ownBlock = some g → v.ownBlock = some g ∨ w.heap.size ≤ g
  mem : a ∈ P.ws

theorem RowTurn.size_le {P : SP} {w w1 : World} {a : Addr} {v v' : Value} (t : RowTurn P w a v v' w1) : w.heap.size ≤ (w1.setCell a v').heap.size := by simpa [World.setCell] using t.grow.size
theorem ownBlock_of {v : Value} {g o n c : Nat} (h : v = .slice (some ⟨g, o, none⟩) n c) : v.ownBlock = some g := by rw [h]; rfl

theorem SI.block_lt (h : SI P r s w) {a : Addr} (ha : a ∈ P.ws) : a.block < w.heap.size := by
  rcases SP.ws_mem.1 ha with ⟨j, hj, rfl⟩ | ⟨j, g, hj, hg, rfl⟩
  · obtain ⟨v, hl, _⟩ := h.wk j hj; exact hl.lt
  · obtain ⟨v, hl, _⟩ := h.gt j g hj hg; exact hl.lt
theorem SI.block_ne (h : SI P r s w) {a : Addr} (ha : a ∈ P.ws) {v : Value} {n : Nat} {xs : List Value} (ho : w.ownsRow P.B 3 1 v n xs) : some a.block ≠ v.ownBlock := fun e => by
  obtain ⟨_, cur, hl⟩ := own_block ho e.symm
  rcases SP.ws_mem.1 ha with ⟨j, hj, rfl⟩ | ⟨j, g, hj, hg, rfl⟩
  · obtain ⟨v, hw, _⟩ := h.wk j hj; exact hl.unlike hw (by decide) rfl
  · obtain ⟨v, hw, _⟩ := h.gt j g hj hg; exact hl.unlike hw (by decide) rfl
theorem SP.ws_block {a b : Addr} (hG : P.Good) (ha : a ∈ P.ws) (hb : b ∈ P.ws) (h : a.block = b.block) : a = b := by
  obtain ⟨_, _, _, s4⟩ := hG.sep
  rcases SP.ws_mem.1 ha with ⟨i, hi, rfl⟩ | ⟨i, g, hi, hg, rfl⟩ <;> rcases SP.ws_mem.1 hb with ⟨j, hj, rfl⟩ | ⟨j, g', hj, hg', rfl⟩
  · rw [hG.inj i j hi hj h]
  · exact absurd h (s4 i j g' hi hj hg')
  · exact absurd h.symm (s4 j i g hj hi hg)
  · have h : g = g' := h
    rw [h]

/-- what a row's turning leaves as it was, and the frame. -/
theorem RowTurn.keeps (hG : P.Good) (h : SI P r s w) {a : Addr} {v v' : Value} {w1 : World} {n : Nat} {xs : List Value} (hv : w.ownsRow P.B 3 1 v n xs) (t : RowTurn P w a v v' w1) :
    (∀ b, b < w.heap.size → some b ≠ v.ownBlock → b ≠ a.block → (w1.setCell a v').heap[b]? = w.heap[b]?) ∧ (∀ b, b ∈ P.ws → b ≠ a → (w1.setCell a v').cell? b = w.cell? b) ∧ (w1.setCell a v').cell? a = some v' ∧ Fr P.L P.ws w (w1.setCell a v') := by
  have k1 : ∀ b, b < w.heap.size → some b ≠ v.ownBlock → b ≠ a.block → (w1.setCell a v').heap[b]? = w.heap[b]? := fun b hb hn ha => (Below.heap_setCell w1 a v' b ha).trans (t.grow.block b hb hn)
  have k2 : ∀ b, b ∈ P.ws → b ≠ a → (w1.setCell a v').cell? b = w.cell? b := fun b hb hba => World.cell?_of_block (w := w) (k1 _ (h.block_lt hb) (h.block_ne hb hv) (fun e => hba (SP.ws_block hG hb t.mem e)))
  have hb1 : w1.heap[a.block]? = w.heap[a.block]? := t.grow.block _ (h.block_lt t.mem) (h.block_ne t.mem hv)
  have c1 : w1.cell? a = some v := (World.cell?_of_block (w := w) hb1).trans t.was
  have k3 : (w1.setCell a v').cell? a = some v' := by
    rcases SP.ws_mem.1 t.mem with ⟨j, hj, rfl⟩ | ⟨j, g, hj, hg, rfl⟩
    · obtain ⟨u, hl, _⟩ := h.wk j hj
      have hl1 : Lies w1 (P.wb j) _ _ := hb1.trans hl
      rw [(hl1.set 0 v').cell 0]
      simp
    · obtain ⟨u, hl, _⟩ := h.gt j g hj hg
      have hl1 : Lies w1 g _ _ := hb1.trans hl
      rw [(hl1.set 0 v').cell 0]
      simp
  refine ⟨k1, k2, k3, ?_⟩
  have inL : a.block ∈ P.L := (sm_ok P hG).cells a t.mem
  refine ⟨t.grow.os, t.grow.tape, t.grow.output, by simpa [World.setCell] using t.grow.size, fun b hb hn hr => k1 b hb (fun e => ?_) (fun e => hn (e ▸ inL)), fun b hb hq => ?_⟩
  · rcases hv.2 with ⟨rfl, _⟩ | ⟨g, cap, cur, rfl, _⟩
    · cases e
    · simp [Value.ownBlock] at e
      subst e
      exact hr ⟨a, t.mem, _, _, _, t.was⟩
  · obtain ⟨x, hx, o, n', c', e⟩ := hq
    by_cases hxa : x = a
    · subst hxa
      rw [k3] at e
      injection e with e
      rcases t.new b (ownBlock_of e) with e2 | e2
      · rcases hv.2 with ⟨rfl, _⟩ | ⟨g, cap, cur, rfl, _⟩
        · cases e2
        · simp [Value.ownBlock] at e2
          subst e2
          exact ⟨x, hx, _, _, _, t.was⟩
      · omega
    · rw [k2 x hx hxa] at e
      exact ⟨x, hx, o, n', c', e⟩
end

end Go.Proofs.Ythjbmaeoogophaa

/- Layer 8's workers: a row turned is a state again. -/
namespace Go.Proofs.Ythjbmaeoogophaa
open Go.RowKit
set_option maxRecDepth 100000

section
variable {P : SP} {r : Nat} {s : SSt} {w : World}
theorem SI.own_of (h : SI P r s w) {a : Addr} (ha : a ∈ P.ws) {v : Value} (hc : w.cell? a = some v) : ∃ n xs, w.ownsRow P.B 3 1 v n xs := by
  obtain ⟨v', n, xs, h1, h2⟩ := h.row ha
  rw [hc] at h1
  injection h1 with h1
  subst h1
  exact ⟨n, xs, h2⟩
theorem own_form {w : World} {B : Nat} {v : Value} {n : Nat} {xs : List Value} {g : Nat} (h : w.ownsRow B 3 1 v n xs) (e : v.ownBlock = some g) : ∃ c, v = .slice (some ⟨g, 0, none⟩) n c := by
  rcases h.2 with ⟨rfl, _⟩ | ⟨g', cap, cur, rfl, _⟩
  · cases e
  · simp [Value.ownBlock] at e
    subst e
    exact ⟨_, rfl⟩

/-- other rows, behind a row's turning. -/
theorem RowTurn.others (hG : P.Good) (h : SI P r s w) {a : Addr} {v v' : Value} {w1 : World} (t : RowTurn P w a v v' w1) {b : Addr} (hb : b ∈ P.ws) (hba : b ≠ a) {u : Value} {n : Nat} {xs : List Value} (hc : w.cell? b = some u) (ho : w.ownsRow P.B 3 1 u n xs) :
    (w1.setCell a v').ownsRow P.B 3 1 u n xs := by
  obtain ⟨m, ys, hv⟩ := h.own_of t.mem t.was
  obtain ⟨k1, _, _, _⟩ := t.keeps hG h hv
  refine own_keep ho fun g hg => ?_
  obtain ⟨_, cur, hl⟩ := own_block ho hg
  refine k1 g hl.lt (fun e => ?_) (fun e => ?_)
  · obtain ⟨c1, e1⟩ := own_form ho hg
    obtain ⟨c2, e2⟩ := own_form hv e.symm
    rw [e1] at hc
    have hw := t.was
    rw [e2] at hw
    exact h.apart b a hb t.mem hba g 0 n c1 0 m c2 hc hw
  · subst e
    exact h.block_ne t.mem ho hg.symm

theorem RowTurn.apart (hG : P.Good) (h : SI P r s w) {a : Addr} {v v' : Value} {w1 : World} (t : RowTurn P w a v v' w1) :
    ∀ x b, x ∈ P.ws → b ∈ P.ws → x ≠ b → ∀ g o n c o' n' c', (w1.setCell a v').cell? x = some (.slice (some ⟨g, o, none⟩) n c) → (w1.setCell a v').cell? b ≠ some (.slice (some ⟨g, o', none⟩) n' c') := by
  obtain ⟨m, ys, hv⟩ := h.own_of t.mem t.was
  obtain ⟨_, k2, k3, _⟩ := t.keeps hG h hv
  have key : ∀ b, b ∈ P.ws → b ≠ a → ∀ g o n c o' n' c', v' = .slice (some ⟨g, o, none⟩) n c → w.cell? b ≠ some (.slice (some ⟨g, o', none⟩) n' c') := by
    intro b hb hba g o n c o' n' c' e hc
    rcases t.new g (ownBlock_of e) with e2 | e2
    · obtain ⟨c2, e3⟩ := own_form hv e2
      have hw := t.was
      rw [e3] at hw
      exact h.apart b a hb t.mem hba g _ _ _ _ _ _ hc hw
    · obtain ⟨_, _, ho⟩ := h.own_of hb hc
      obtain ⟨_, cur, hl⟩ := own_lies ho rfl
      have := hl.lt
      omega
  intro x b hx hb hxb g o n c o' n' c' e1 e2
  by_cases hxa : x = a
  · subst hxa
    rw [k3] at e1
    injection e1 with e1
    rw [k2 b hb (fun e => hxb e.symm)] at e2
    exact key b hb (fun e => hxb e.symm) g _ _ _ _ _ _ e1 e2
  · rw [k2 x hx hxa] at e1
    by_cases hba : b = a
    · subst hba
      rw [k3] at e2
      injection e2 with e2
      exact key x hx hxa g _ _ _ _ _ _ e2 e1
    · rw [k2 b hb hba] at e2
      exact h.apart x b hx hb hxb g _ _ _ _ _ _ e1 e2

theorem SI.hset (hG : P.Good) (h : SI P r s w) (j : Nat) (hj : j < P.nw) {v v' : Value} {w1 : World} (t : RowTurn P w ⟨P.wb j, 0, none⟩ v v' w1) {xs : List Int} (ho : w1.ownsRow P.B 3 1 v' xs.length (intVs xs)) (hin : ∀ i, i ∈ xs → 0 ≤ i ∧ i < P.n) (hsz : xs.length + r ≤ 5000) :
    SI P r { s with hs := updF s.hs j xs } (w1.setCell ⟨P.wb j, 0, none⟩ v') := by
  obtain ⟨_, s2, s3, s4⟩ := hG.sep
  obtain ⟨v0, hl, hr⟩ := h.wk j hj
  have hv0 : v0 = v := by
    have h1 : w.cell? ⟨P.wb j, 0, none⟩ = some v0 := hl.cell 0
    have h2 := t.was
    rw [h1] at h2
    injection h2
  subst hv0
  obtain ⟨k1, k2, k3, _⟩ := t.keeps hG h hr
  have not_own : ∀ {b : Nat} {ty : TypeId} {cs : Array Value}, Lies w b ty cs → ty ≠ 3 → some b ≠ v0.ownBlock := fun hb hn e => by
    obtain ⟨_, cur, hc⟩ := own_block hr e.symm
    exact hb.unlike hc hn rfl
  have keep : ∀ {b : Nat} {ty : TypeId} {cs : Array Value}, Lies w b ty cs → ty ≠ 3 → b ≠ P.wb j → Lies (w1.setCell ⟨P.wb j, 0, none⟩ v') b ty cs := fun hb hn hne => (k1 _ hb.lt (not_own hb hn) hne).trans hb
  refine ⟨⟨keep h.ar.head (by decide) (s2 j hj).1.symm, keep h.ar.body (by decide) (s2 j hj).2.symm, h.ar.pos, h.ar.most, h.ar.fit, h.ar.k0⟩, h.room, h.ok, fun i hi => ?_, fun i g hi hg => ?_, fun i hi x hx => ?_, fun i hi => ?_, t.apart hG h, fun b hb => Nat.lt_of_lt_of_le (h.exl b hb) (t.size_le)⟩
  · by_cases hij : i = j
    · subst hij
      have hl1 : Lies w1 (P.wb i) 34 _ := (t.grow.block _ hl.lt (not_own hl (by decide))).trans hl
      refine ⟨v', ?_, ?_⟩
      · have := hl1.set 0 v'
        simpa using this
      · show World.ownsRow _ _ _ _ _ (updF s.hs i xs i).length (intVs (updF s.hs i xs i))
        rw [updF_same]
        refine own_keep ho fun g hg => ?_
        obtain ⟨_, cur, hc⟩ := own_block ho hg
        exact Below.heap_setCell w1 ⟨P.wb i, 0, none⟩ v' g (hc.unlike hl1 (by decide))
    · obtain ⟨u, hlu, hru⟩ := h.wk i hi
      refine ⟨u, keep hlu (by decide) (fun e => hij (hG.inj i j hi hj e)), ?_⟩
      show World.ownsRow _ _ _ _ _ (updF s.hs j xs i).length (intVs (updF s.hs j xs i))
      rw [updF_ne _ _ hij]
      refine t.others hG h (SI.in_ws i hi) (fun e => ?_) (hlu.cell 0) hru
      have e : P.wb i = P.wb j := congrArg Addr.block e
      exact hij (hG.inj i j hi hj e)
  · obtain ⟨u, hlu, hru⟩ := h.gt i g hi hg
    refine ⟨u, keep hlu (by decide) (fun e => s4 j i g hj hi hg e.symm), ?_⟩
    refine t.others hG h (SP.ws_mem.2 (.inr ⟨i, g, hi, hg, rfl⟩)) (fun e => ?_) (hlu.cell 0) hru
    have e : g = P.wb j := congrArg Addr.block e
    exact s4 j i g hj hi hg e.symm
  · have hx : x ∈ updF s.hs j xs i := hx
    unfold updF at hx
    split at hx
    · exact hin x hx
    · exact h.hb i hi x hx
  · refine ⟨?_, (h.size i hi).2⟩
    show (updF s.hs j xs i).length + r ≤ 5000
    unfold updF
    split
    · exact hsz
    · exact (h.size i hi).1

theorem SI.gset (hG : P.Good) (h : SI P r s w) (j g : Nat) (hj : j < P.nw) (hg : P.gp j = some g) {v v' : Value} {w1 : World} (t : RowTurn P w ⟨g, 0, none⟩ v v' w1) {xs : List Int} (ho : w1.ownsRow P.B 3 1 v' xs.length (intVs xs)) (hsz : xs.length + r ≤ 5000) :
    SI P r { s with gt := updF s.gt j xs } (w1.setCell ⟨g, 0, none⟩ v') := by
  obtain ⟨_, s2, s3, s4⟩ := hG.sep
  obtain ⟨v0, hl, hr⟩ := h.gt j g hj hg
  have hv0 : v0 = v := by
    have h1 : w.cell? ⟨g, 0, none⟩ = some v0 := hl.cell 0
    have h2 := t.was
    rw [h1] at h2
    injection h2
  subst hv0
  obtain ⟨k1, k2, k3, _⟩ := t.keeps hG h hr
  have not_own : ∀ {b : Nat} {ty : TypeId} {cs : Array Value}, Lies w b ty cs → ty ≠ 3 → some b ≠ v0.ownBlock := fun hb hn e => by
    obtain ⟨_, cur, hc⟩ := own_block hr e.symm
    exact hb.unlike hc hn rfl
  have keep : ∀ {b : Nat} {ty : TypeId} {cs : Array Value}, Lies w b ty cs → ty ≠ 3 → b ≠ g → Lies (w1.setCell ⟨g, 0, none⟩ v') b ty cs := fun hb hn hne => (k1 _ hb.lt (not_own hb hn) hne).trans hb
  refine ⟨⟨keep h.ar.head (by decide) (s3 j g hj hg).1.symm, keep h.ar.body (by decide) (s3 j g hj hg).2.symm, h.ar.pos, h.ar.most, h.ar.fit, h.ar.k0⟩, h.room, h.ok, fun i hi => ?_, fun i g' hi hg' => ?_, h.hb, fun i hi => ?_, t.apart hG h, fun b hb => Nat.lt_of_lt_of_le (h.exl b hb) (t.size_le)⟩
  · obtain ⟨u, hlu, hru⟩ := h.wk i hi
    refine ⟨u, keep hlu (by decide) (s4 i j g hi hj hg), ?_⟩
    refine t.others hG h (SI.in_ws i hi) (fun e => ?_) (hlu.cell 0) hru
    have e : P.wb i = g := congrArg Addr.block e
    exact s4 i j g hi hj hg e
  · by_cases hij : i = j
    · subst hij
      rw [hg] at hg'
      injection hg' with hg'
      subst hg'
      have hl1 : Lies w1 g 31 _ := (t.grow.block _ hl.lt (not_own hl (by decide))).trans hl
      refine ⟨v', ?_, ?_⟩
      · have := hl1.set 0 v'
        simpa using this
      · show World.ownsRow _ _ _ _ _ (updF s.gt i xs i).length (intVs (updF s.gt i xs i))
        rw [updF_same]
        refine own_keep ho fun b hb => ?_
        obtain ⟨_, cur, hc⟩ := own_block ho hb
        exact Below.heap_setCell w1 ⟨g, 0, none⟩ v' b (hc.unlike hl1 (by decide))
    · have hne : g' ≠ g := fun e => hij (hG.ginj i j g hi hj (e ▸ hg') hg)
      obtain ⟨u, hlu, hru⟩ := h.gt i g' hi hg'
      refine ⟨u, keep hlu (by decide) hne, ?_⟩
      show World.ownsRow _ _ _ _ _ (updF s.gt j xs i).length (intVs (updF s.gt j xs i))
      rw [updF_ne _ _ hij]
      refine t.others hG h (SP.ws_mem.2 (.inr ⟨i, g', hi, hg', rfl⟩)) (fun e => ?_) (hlu.cell 0) hru
      exact hne (congrArg Addr.block e)
  · refine ⟨(h.size i hi).1, ?_⟩
    show (updF s.gt j xs i).length + r ≤ 5000
    unfold updF
    split
    · exact hsz
    · exact (h.size i hi).2
end

end Go.Proofs.Ythjbmaeoogophaa

/- Layer 8's code of acts: what its closures do. -/
namespace Go.Proofs.Ythjbmaeoogophaa
open Go.RowKit
set_option maxRecDepth 100000

theorem ent_code1 : Ent 40 := ent_of Try.func40 (by kernel_rfl) (by kernel_rfl)
theorem ent_code2 : Ent 42 := ent_of Try.func42 (by kernel_rfl) (by kernel_rfl)

/-- the law's stack. -/
abbrev stV (P : SP) : Value := chV P.p 0 38 #[]
abbrev stC (P : SP) : Array Value := chC P.p 0 38 #[]

/-- code() of so many acts tells code that does them. -/
def CodeS (P : SP) (n : Nat) (l : List Bool) : Prop := ∀ (j : Nat) (A : Option Addr) (cp : Nat) (w : World) (r : Nat) (s : SSt), j < P.nw → BL P w A l → l.length ≤ cp → SI P r s w →
  (SM P).Then 15 #[stV P, .slice A l.length cp, ptr (P.wb j)] w fun v w' => SI P r (startS j l s).2 w' ∧ (SM P).Code n (startS j l s).1 v w'

section
variable {P : SP} {m bw bs bl j : Nat} {w : World} {A : Option Addr} {cp : Nat} {b : Bool} {l : List Bool}

theorem code2_g (hG : P.Good) (hj : j < P.nw) (x0 : (SM P).Bx w bw 30 #[ptr (P.wb j)]) (x1 : (SM P).Bx w bs 27 (stC P)) (x2 : (SM P).Bx w bl 22 #[.slice A (l.length + 1) cp]) (hB : BL P w A (b :: l)) (hcp : l.length + 1 ≤ cp)
    (ih : ∀ n, n < m → CodeS P n l) :
    (SM P).Cont m 42 #[ptr bw, ptr bs, ptr bl] w (fun (_ : Unit) s => s.hs j ≠ []) (fun _ => #[]) (fun _ s => startS j l (s.pushed j)) := by
  intro n hn x w' s r hm hJ hne
  have hM := sm_ok P hG
  have x0 := x0.mv hm
  have x1 := x1.mv hm
  have x2 := x2.mv hm
  have hB := (hB.mv hm).tail (cp := cp) hcp
  have hi : SI P r s w' := hJ.1
  obtain ⟨v, hl, ho⟩ := hi.wk j hj
  obtain ⟨q, hq⟩ : ∃ q, (s.hs j).length = q + 1 := ⟨(s.hs j).length - 1, by have := List.length_pos_iff.2 hne; omega⟩
  obtain ⟨g, c, rfl, hBg, hglt⟩ := ho.form (by omega)
  rw [hq] at hl
  have c0 := x0.cell
  have d0 : w'.cell? ⟨P.wb j, 0, none⟩ = some (.slice (some ⟨g, 0, none⟩) (q + 1) c) := hl.cell 0
  have f0 := hl.frozen 0
  have hc : q ≤ c := by
    rcases ho.2 with ⟨h0, _⟩ | ⟨g', cap, cur, hv, _, _, hnc, _⟩
    · cases h0
    · rw [hq] at hv hnc
      injection hv with _ _ hv
      omega
  have hmx : q < 100000 := by have := (hi.size j hj).1; omega
  have hsl := slice_head1 (t := 31) (e := 3) Try.underlying31 (by kernel_rfl) (some ⟨g, 0, none⟩) (q + 1) c q hc
  rw [headO_some] at hsl
  have hwq : IntKind.i64.wrap (q : Int) = q := by rw [IntKind.wrap_i64]; omega
  -- the state behind
  have hdl : (s.hs j).dropLast.length = q := by rw [List.length_dropLast, hq]; rfl
  have tud : Turns [] w' w'.drew := (Turns.refl [] _).drew
  have hi := SI.tasks (Mv.of_turns tud (by simp) (fun x hx => by cases hx)) hi
  have ho : w'.drew.ownsRow P.B 3 1 (.slice (some ⟨g, 0, none⟩) (q + 1) c) (q + 1) (intVs (s.hs j)) := by rw [hq] at ho; exact ho
  have ho2 : w'.drew.ownsRow P.B 3 1 (.slice (some ⟨g, 0, none⟩) q c) q (intVs (s.hs j).dropLast) := by
    have hsp : intVs (s.hs j) = intVs (s.hs j).dropLast ++ intVs [(s.hs j).getLast hne] := by
      unfold intVs
      rw [← List.map_append, List.dropLast_concat_getLast]
    rw [hsp] at ho
    exact ownsRow_pop (size := 1) (by simp [intVs, hq]) ho
  have T : RowTurn P w'.drew ⟨P.wb j, 0, none⟩ (.slice (some ⟨g, 0, none⟩) (q + 1) c) (.slice (some ⟨g, 0, none⟩) q c) w'.drew := ⟨⟨rfl, rfl, rfl, Nat.le_refl _, fun _ _ _ => rfl⟩, d0, fun g' hg' => .inl hg', SI.in_ws j hj⟩
  have hI3 : SI P r (s.pushed j) (w'.drew.setCell ⟨P.wb j, 0, none⟩ (.slice (some ⟨g, 0, none⟩) q c)) := hi.hset hG j hj T (xs := (s.hs j).dropLast) (by rw [hdl]; exact ho2) (fun i h => hi.hb j hj i (by rw [List.dropLast_eq_take] at h; exact List.mem_of_mem_take h)) (by have := (hi.size j hj).1; omega)
  have hF3 : Fr P.L P.ws w' (w'.drew.setCell ⟨P.wb j, 0, none⟩ (.slice (some ⟨g, 0, none⟩) q c)) := ((hM.okj hJ).fr hM tud).trans (T.keeps hG hi ho).2.2.2
  have hm3 : Mv P.B (P.L ++ P.ex) P.ws w' (w'.drew.setCell ⟨P.wb j, 0, none⟩ (.slice (some ⟨g, 0, none⟩) q c)) := hF3.mv
  have hB3 := hB.mv hm3
  have y0 := (x0.mv hm3)
  have y1 := (x1.mv hm3)
  have y2 := (x2.mv hm3)
  clear T ho2 hdl ho hi hJ hB x0 x1 x2 hl tud hm3
  show (SM P).Then _ #[ptr bw, ptr bs, ptr bl] w' (fun v w'' => SI P r (startS j l (s.pushed j)).2 w'' ∧ (SM P).Code n (startS j l (s.pushed j)).1 v w'')
  have ht := fun W k1 k2 => ih n hn j (tailO A cp) (cp - 1) W r (s.pushed j) hj k1 (by omega) k2
  generalize startS j l (s.pushed j) = R at *
  unfold Gm.Then at *
  go_enter Try.func42, Try.ntmps42
  go_wp2_with fail
  go_still_tail 14, (by kernel_rfl)
  change wpList _ _ _ _ _ w'.drew
  have d0 : w'.drew.cell? ⟨P.wb j, 0, none⟩ = some (.slice (some ⟨g, 0, none⟩) (q + 1) c) := d0
  have f0 : w'.drew.frozen? ⟨P.wb j, 0, none⟩ = false := f0
  generalize w'.drew = w1 at *
  go_upto_region 2 with (fail)
  generalize w1.setCell ⟨P.wb j, 0, none⟩ (.slice (some ⟨g, 0, none⟩) q c) = W3 at *
  have hsl := slice_tail1 (t := 22) (e := 4) Try.underlying22 (by kernel_rfl) A (l.length + 1) cp (by omega)
  rw [Nat.add_sub_cancel] at hsl
  have e0 := y0.cell
  have e2 := y2.cell
  obtain ⟨c0, c1, c2⟩ : W3.cell? ⟨bs, 0, none⟩ = some (ptr P.p) ∧ W3.cell? ⟨bs, 1, none⟩ = some (.int .i64 0) ∧ W3.cell? ⟨bs, 2, none⟩ = some (.func (.func 38) #[] #[]) := ⟨y1.l.cell 0, y1.l.cell 1, y1.l.cell 2⟩
  have tu3 : Turns [] W3 W3.drew := (Turns.refl [] _).drew
  have okw3 := hM.okw _ _ _ hI3
  have hI4 := SI.tasks (Mv.of_turns tu3 (by simp) (fun x hx => by cases hx)) hI3
  have ht := ht _ (hB3.mv (okw3.mv hM tu3)) hI4
  have hF4 := hF3.trans (okw3.fr hM tu3)
  have oo := (fun (b : Nat) (t : TypeId) (cs : Array Value) (y : (SM P).Bx W3 b t cs) (W : World) (f : Fr P.L P.ws W3.drew W) => (f.lies (y.l.drew) y.out y.row))
  clear hI3 hF3 hB3 d0 f0
  go_wp2_with fail
  go_region_held3 (fun W' => W'.cell? ⟨bs, 0, none⟩ = some (ptr P.p) ∧ W'.cell? ⟨bs, 1, none⟩ = some (.int .i64 0) ∧ W'.cell? ⟨bs, 2, none⟩ = some (.func (.func 38) #[] #[]) ∧ W'.cell? ⟨bl, 0, none⟩ = some (.slice A (l.length + 1) cp) ∧ W'.cell? ⟨bw, 0, none⟩ = some (ptr (P.wb j)))
    (first | exact ⟨c0, c1, c2, e2, e0⟩ | exact ⟨u0, u1, u2, u3, u4⟩)
    (first
      | (go_at_call 15
         refine ht.mono ?_
         rintro e w5 ⟨v, rfl, hq5, t5⟩
         have o1 := oo _ _ _ y1 _ t5
         have u0 : w5.cell? ⟨bs, 0, none⟩ = some (ptr P.p) := o1.cell 0
         have u1 : w5.cell? ⟨bs, 1, none⟩ = some (.int .i64 0) := o1.cell 1
         have u2 : w5.cell? ⟨bs, 2, none⟩ = some (.func (.func 38) #[] #[]) := o1.cell 2
         have u3 : w5.cell? ⟨bl, 0, none⟩ = some (.slice A (l.length + 1) cp) := (oo _ _ _ y2 _ t5).cell 0
         have u4 : w5.cell? ⟨bw, 0, none⟩ = some (ptr (P.wb j)) := (oo _ _ _ y0 _ t5).cell 0))
  go_wp2
  go_ret
  exact ⟨v, rfl, hq5, hF4.trans t5⟩
end

end Go.Proofs.Ythjbmaeoogophaa

/- Layer 8's workers: a row grown; the closure behind a Pop. -/
namespace Go.Proofs.Ythjbmaeoogophaa
open Go.RowKit
set_option maxRecDepth 100000

theorem int_info8 : (Try.prog.info? 3).map (fun i => (i.zero, i.size, i.bytes)) = some (some (.int .i64 0), 1, 8) := by kernel_rfl
theorem intVs_snoc (xs : List Int) (i : Int) : intVs (xs ++ [i]) = intVs xs ++ [.int .i64 i] := by simp [intVs]

section
variable {P : SP} {r : Nat} {s : SSt} {W w1 : World}
theorem SI.app_h (hG : P.Good) (h : SI P r s W) (j : Nat) (hj : j < P.nw) {v : Value} (hc : W.cell? ⟨P.wb j, 0, none⟩ = some v) {g cap H : Nat} {i : Int}
    (ho : w1.ownsRow P.B 3 1 (.slice (some ⟨g, 0, none⟩) ((s.hs j).length + 1) cap) ((s.hs j).length + 1) (intVs (s.hs j) ++ [.int .i64 i])) (hg : W.grownBy w1 v.ownBlock) (hat : v.ownBlock = some g ∨ g = H) (hH : W.heap.size ≤ H)
    (hi : 0 ≤ i ∧ i < P.n) (hsz : (s.hs j).length + r + 1 ≤ 5000) :
    SI P r { s with hs := updF s.hs j (s.hs j ++ [i]) } (w1.setCell ⟨P.wb j, 0, none⟩ (.slice (some ⟨g, 0, none⟩) ((s.hs j).length + 1) cap)) ∧ Fr P.L P.ws W (w1.setCell ⟨P.wb j, 0, none⟩ (.slice (some ⟨g, 0, none⟩) ((s.hs j).length + 1) cap)) := by
  have T : RowTurn P W ⟨P.wb j, 0, none⟩ v (.slice (some ⟨g, 0, none⟩) ((s.hs j).length + 1) cap) w1 := ⟨hg, hc, fun g' hg' => by
    simp [Value.ownBlock] at hg'
    subst hg'
    rcases hat with h1 | h1
    · exact .inl h1
    · exact .inr (by omega), SI.in_ws j hj⟩
  obtain ⟨n, xs, hv⟩ := h.own_of (SI.in_ws j hj) hc
  refine ⟨h.hset hG j hj T (xs := s.hs j ++ [i]) (by rw [List.length_append, intVs_snoc]; exact ho) (fun y hy => ?_) (by rw [List.length_append]; simp; omega), (T.keeps hG h hv).2.2.2⟩
  rcases List.mem_append.1 hy with hy | hy
  · exact h.hb j hj y hy
  · rw [List.mem_singleton] at hy; subst hy; exact hi
theorem SI.app_g (hG : P.Good) (h : SI P r s W) (j gb : Nat) (hj : j < P.nw) (hgb : P.gp j = some gb) {v : Value} (hc : W.cell? ⟨gb, 0, none⟩ = some v) {g cap H : Nat} {i : Int}
    (ho : w1.ownsRow P.B 3 1 (.slice (some ⟨g, 0, none⟩) ((s.gt j).length + 1) cap) ((s.gt j).length + 1) (intVs (s.gt j) ++ [.int .i64 i])) (hg : W.grownBy w1 v.ownBlock) (hat : v.ownBlock = some g ∨ g = H) (hH : W.heap.size ≤ H)
    (hsz : (s.gt j).length + r + 1 ≤ 5000) :
    SI P r { s with gt := updF s.gt j (s.gt j ++ [i]) } (w1.setCell ⟨gb, 0, none⟩ (.slice (some ⟨g, 0, none⟩) ((s.gt j).length + 1) cap)) ∧ Fr P.L P.ws W (w1.setCell ⟨gb, 0, none⟩ (.slice (some ⟨g, 0, none⟩) ((s.gt j).length + 1) cap)) := by
  have hin : (⟨gb, 0, none⟩ : Addr) ∈ P.ws := SP.ws_mem.2 (.inr ⟨j, gb, hj, hgb, rfl⟩)
  have T : RowTurn P W ⟨gb, 0, none⟩ v (.slice (some ⟨g, 0, none⟩) ((s.gt j).length + 1) cap) w1 := ⟨hg, hc, fun g' hg' => by
    simp [Value.ownBlock] at hg'
    subst hg'
    rcases hat with h1 | h1
    · exact .inl h1
    · exact .inr (by omega), hin⟩
  obtain ⟨n, xs, hv⟩ := h.own_of hin hc
  exact ⟨h.gset hG j gb hj hgb T (xs := s.gt j ++ [i]) (by rw [List.length_append, intVs_snoc]; exact ho) (by rw [List.length_append]; simp; omega), (T.keeps hG h hv).2.2.2⟩
end

section
variable {P : SP} {m bw bs bl j : Nat} {w : World} {A : Option Addr} {cp : Nat} {b : Bool} {l : List Bool}

theorem own_ne {w : World} {B n b : Nat} {v : Value} {xs : List Value} {t : TypeId} {ds : Array Value} (h : w.ownsRow B 3 1 v n xs) (l : Lies w b t ds) (ht : t ≠ 3) : some b ≠ v.ownBlock := fun e => by
  obtain ⟨_, cur, hc⟩ := own_block h e.symm
  exact l.unlike hc ht rfl

/-- the state behind an answer, piece by piece. -/
def SSt.told (s : SSt) (j : Nat) (nb : Bool) : SSt := (s.mark j 4 nb).mark j 2 false
def SSt.gota (s : SSt) (g : Bool) (j : Nat) (i : Int) : SSt := if g = true then { s with gt := updF s.gt j (s.gt j ++ [i]) } else s
def SSt.handa (s : SSt) (j : Nat) (i : Int) (ok : Bool) : SSt := if ok = true then { s with hs := updF s.hs j (s.hs j ++ [i]) } else s
theorem SSt.popped_eq (s : SSt) (g : Bool) (j : Nat) (i : Int) (ok : Bool) : s.popped g j i ok = ((s.told j (s.wr j || (!ok && !s.ba j) || (ok != decide (0 ≤ i)))).gota g j i).handa j i ok := by
  cases g <;> cases ok <;> rfl

set_option maxHeartbeats 1000000 in
theorem code1_g (hG : P.Good) (hj : j < P.nw) (x0 : (SM P).Bx w bw 30 #[ptr (P.wb j)]) (x1 : (SM P).Bx w bs 27 (stC P)) (x2 : (SM P).Bx w bl 22 #[.slice A (l.length + 1) cp]) (hB : BL P w A (b :: l)) (hcp : l.length + 1 ≤ cp)
    (ih : ∀ n, n < m → CodeS P n l) :
    (SM P).Cont m 40 #[ptr bw, ptr bs, ptr bl] w (fun (x : Int × Bool) (_ : SSt) => PopD (fun o => hIx o < P.n) x ∧ True) (fun x => #[.int .i64 x.1, .bool x.2]) (fun x s => startS j l (s.popped (P.has j) j x.1 x.2)) := by
  intro n hn x w' s r hm hJ hd
  obtain ⟨i, ok⟩ := x
  have hM := sm_ok P hG
  have x0 := x0.mv hm
  have x1 := x1.mv hm
  have x2 := x2.mv hm
  have hB := (hB.mv hm).tail (cp := cp) hcp
  have hi : SI P r s w' := hJ.1
  have hsz := hJ.2 j hj
  have hok : (ok = true → 0 ≤ i ∧ i < P.n) ∧ (ok = false → i = -1) := by
    refine ⟨fun e => ?_, fun e => hd.1.2 e⟩
    obtain ⟨o, _, h1, h2, h3⟩ := hd.1.1 e
    have := hIx_ix h2
    unfold Ix at this
    have e1 : i = hIx o := h3
    have h1 : hIx o < P.n := h1
    omega
  have hmx : (-1 : Int) ≤ i ∧ i < 100000 := by
    have := hG.few
    cases ok with
    | true => have := hok.1 rfl; omega
    | false => have := hok.2 rfl; omega
  obtain ⟨nb, hnb⟩ : ∃ nb, (s.wr j || (!ok && !s.ba j) || (ok != decide (0 ≤ i))) = nb := ⟨_, rfl⟩
  have tud : Turns [] w' w'.drew := (Turns.refl [] _).drew
  have hi1 := SI.tasks (Mv.of_turns tud (by simp) (fun x hx => by cases hx)) hi
  have hi2 := hi1.mark hG j hj 4 (.inr (.inr rfl)) nb
  have hi3 := hi2.mark hG j hj 2 (.inl rfl) false
  have f3 : Fr P.L P.ws w' ((w'.drew.setCell ⟨P.wb j, 4, none⟩ (.bool nb)).setCell ⟨P.wb j, 2, none⟩ (.bool false)) := (((hM.okj hJ).fr hM tud).trans (hi1.mark_fr hG j hj 4 (.inr (.inr rfl)) nb)).trans (hi2.mark_fr hG j hj 2 (.inl rfl) false)
  obtain ⟨v, hl, _⟩ := hi1.wk j hj
  obtain ⟨v2, hl2, _⟩ := hi2.wk j hj
  have c0 := x0.cell
  have d3 : w'.drew.cell? ⟨P.wb j, 3, none⟩ = some (.bool (s.ba j)) := hl.cell 3
  have d4 : w'.drew.cell? ⟨P.wb j, 4, none⟩ = some (.bool (s.wr j)) := hl.cell 4
  have f4 : w'.drew.frozen? ⟨P.wb j, 4, none⟩ = false := hl.frozen 4
  have m2 : (w'.drew.setCell ⟨P.wb j, 4, none⟩ (.bool nb)).cell? ⟨P.wb j, 2, none⟩ = some (.bool (s.bu j)) := hl2.cell 2
  have g2 : (w'.drew.setCell ⟨P.wb j, 4, none⟩ (.bool nb)).frozen? ⟨P.wb j, 2, none⟩ = false := hl2.frozen 2
  have k2 : (w'.drew.setCell ⟨P.wb j, 4, none⟩ (.bool nb)).cell? ⟨bw, 0, none⟩ = some (ptr (P.wb j)) := (x0.mv ((((hM.okj hJ).fr hM tud).trans (hi1.mark_fr hG j hj 4 (.inr (.inr rfl)) nb)).mv)).cell
  have zB := hB
  have z0 := x0
  have z1 := x1
  have z2 := x2
  have hB := hB.mv f3.mv
  have y0 := x0.mv f3.mv
  have y1 := x1.mv f3.mv
  have y2 := x2.mv f3.mv
  have hi3 : SI P r (s.told j nb) _ := hi3
  have hz3 : ((s.told j nb).hs j).length + r + 1 ≤ 5000 ∧ ((s.told j nb).gt j).length + r + 1 ≤ 5000 := hsz
  show (SM P).Then _ #[.int .i64 i, .bool ok, ptr bw, ptr bs, ptr bl] w' (fun v w'' => SI P r (startS j l (s.popped (P.has j) j i ok)).2 w'' ∧ (SM P).Code n (startS j l (s.popped (P.has j) j i ok)).1 v w'')
  rw [SSt.popped_eq, hnb]
  generalize hs3 : s.told j nb = s3 at *
  have ht := fun W k1 k2 => ih n hn j (tailO A cp) (cp - 1) W r ((s3.gota (P.has j) j i).handa j i ok) hj k1 (by omega) k2
  generalize startS j l ((s3.gota (P.has j) j i).handa j i ok) = R at *
  clear hl hl2 x0 x1 x2 hi1 hi2 hi hJ hm hs3
  have HN := Lib.hid hnb
  clear hnb
  unfold Gm.Then at *
  go_enter Try.func40, Try.ntmps40
  go_upto_region 1 with (fail)
  go_cut [24] (fun _ wc => wc = w'.drew.setCell ⟨P.wb j, 4, none⟩ (.bool nb))
  case first =>
    clear m2 g2 k2 hi3 f3 y0 y1 y2 hB ht
    have d3 : w'.cell? ⟨P.wb j, 3, none⟩ = some (.bool (s.ba j)) := d3
    have d4 : w'.cell? ⟨P.wb j, 4, none⟩ = some (.bool (s.wr j)) := d4
    have f4 : w'.frozen? ⟨P.wb j, 4, none⟩ = false := f4
    generalize s.wr j = wr at *
    generalize s.ba j = ba at *
    cases ok with
    | true =>
      have hp := hok.1 rfl
      have hp0 : (0 : Int) ≤ i := hp.1
      cases wr with
      | true =>
        go_region
        go_wp2_with fail
        go_meet
        case rel =>
          have hn := HN.out
          simp at hn
          subst hn
          rfl
      | false =>
        go_region
        go_wp2_with fail
        go_meet
        case rel =>
          have hn := HN.out
          simp [hp0] at hn
          subst hn
          rfl
    | false =>
      obtain rfl := hok.2 rfl
      cases wr with
      | true =>
        go_region
        go_wp2_with fail
        go_meet
        case rel =>
          have hn := HN.out
          simp at hn
          subst hn
          rfl
      | false =>
        cases ba with
        | true =>
          go_region
          go_wp2_with fail
          go_meet
          case rel =>
            have hn := HN.out
            simp at hn
            subst hn
            rfl
        | false =>
          go_region
          go_wp2_with fail
          go_meet
          case rel =>
            have hn := HN.out
            simp at hn
            subst hn
            rfl
  case rest =>
    obtain rfl := hcut
    clear c0 d3 d4 f4 tud hd
    have HK := Lib.hid hok
    clear hok
    generalize w'.drew.setCell ⟨P.wb j, 4, none⟩ (.bool nb) = W1 at *
    go_upto_region 3 with (fail)
    generalize W1.setCell ⟨P.wb j, 2, none⟩ (.bool false) = W3 at *
    clear m2 g2 k2
    obtain ⟨v3, hl3, ho3⟩ := hi3.wk j hj
    have e0 := y0.cell
    obtain ⟨og, hog, hgn⟩ : ∃ og : Option Addr, P.gotV j = .pointer og ∧ og = (P.gp j).map (fun g => ⟨g, 0, none⟩) := by
      unfold SP.gotV
      cases P.gp j with
      | none => exact ⟨none, rfl, rfl⟩
      | some g => exact ⟨some ⟨g, 0, none⟩, rfl, rfl⟩
    have q1 : W3.cell? ⟨P.wb j, 1, none⟩ = some (.pointer og) := by have := hl3.cell 1; simp [hog] at this; exact this
    have HG := Lib.hid hgn
    clear hgn hog
    go_upto_if 39 with (fail)
    trace_state
    go_cut [52] (fun _ wc => SI P r (s3.gota (P.has j) j i) wc ∧ Fr P.L P.ws w' wc)
    case first =>
      clear ht
      cases og with
      | none =>
        have e : s3.gota (P.has j) j i = s3 := by
          have h := HG.out
          unfold SSt.gota SP.has
          cases hg : P.gp j with
          | none => rfl
          | some g => rw [hg] at h; cases h
        go_wp2_with fail
        go_meet
        case rel => rw [e]; exact ⟨hi3, f3⟩
      | some a =>
        obtain ⟨gb, hgb, rfl⟩ : ∃ gb, P.gp j = some gb ∧ a = ⟨gb, 0, none⟩ := by
          have h := HG.out
          cases hg : P.gp j with
          | none => rw [hg] at h; cases h
          | some g => rw [hg] at h; injection h with h; exact ⟨g, rfl, h⟩
        have e : s3.gota (P.has j) j i = { s3 with gt := updF s3.gt j (s3.gt j ++ [i]) } := by
          unfold SSt.gota SP.has
          rw [hgb]
          rfl
        obtain ⟨vg, hlg, hog⟩ := hi3.gt j gb hj hgb
        have e1 : W3.cell? ⟨gb, 0, none⟩ = some vg := hlg.cell 0
        have fg : W3.frozen? ⟨gb, 0, none⟩ = false := hlg.frozen 0
        have tuW : Turns [] W3 (W3.alloc (.cells #[.int .i64 i] 3)).drew := ((Turns.refl [] _).alloc _).drew
        have hiW := SI.tasks (Mv.of_turns tuW (by simp) (fun x hx => by cases hx)) hi3
        have frW := (hM.okw _ _ _ hi3).fr hM tuW
        have u0 := (tuW.cell (p := ⟨bw, 0, none⟩) y0.lt (by simp)).trans e0
        have u1 := (tuW.cell (p := ⟨P.wb j, 1, none⟩) hl3.lt (by simp)).trans q1
        have u2 := (tuW.cell (p := ⟨gb, 0, none⟩) hlg.lt (by simp)).trans e1
        have uf : (W3.alloc (.cells #[.int .i64 i] 3)).drew.frozen? ⟨gb, 0, none⟩ = false := (hlg.turn tuW (by simp)).frozen 0
        have lt0 := y0.lt
        have lt1 := hl3.lt
        have lt2 := hlg.lt
        have n0 := own_ne hog y0.l (by decide)
        have n1 := own_ne hog hl3 (by decide)
        have n2 := own_ne hog hlg (by decide)
        have hbase : P.B ≤ W3.heap.size := by have := hG.low.1; have := hi3.ar.head.lt; omega
        have hsg := hz3.2
        have nb0 : gb ≠ bw := fun h => by subst h; exact hlg.unlike y0.l (by decide) rfl
        have nb1 : gb ≠ P.wb j := fun h => by subst h; exact hlg.unlike hl3 (by decide) rfl
        obtain ⟨i0, hi0, hz0, hz1, hz2⟩ := info_parts int_info8
        go_wp2_with fail
        --R4<
        refine wp_region_held_drew (S := fun W' => W'.cell? ⟨bw, 0, none⟩ = some (ptr (P.wb j)) ∧ W'.cell? ⟨P.wb j, 1, none⟩ = some (.pointer (some ⟨gb, 0, none⟩))) (by kernel_rfl) ⟨e0, q1⟩ (fun hHeld => ?_)
        refine wpAnyH_take (i := 0) (oi := { dst := some 40, op := Go.Op.load 30 (Go.Operand.tmp 2), type := 30, pos := "law.go:49", after := #[], guard := none }) (v := ?_) rfl (by kernel_rfl) (by kernel_rfl) (by kernel_rfl) (fun _ _ _ h => h) (Or.inl ⟨by rfl, ?_⟩) hHeld ?_
        rotate_left
        · intro w hSw; obtain ⟨hS0, hS1⟩ := hSw; go_simp; try with_reducible rfl
        rotate_left
        try simp only [Act.put, List.setIfInBounds_toArray, List.set_cons_zero, List.set_cons_succ]
        refine wpAnyH_take (i := 1) (oi := { dst := some 41, op := Go.Op.nilCheck (Go.Operand.tmp 40), type := 0, pos := "law.go:49", after := #[{ on := 0, ground := Go.Ground.data }], guard := none }) (v := ?_) rfl (by kernel_rfl) (by kernel_rfl) (by kernel_rfl) (fun _ _ _ h => h) (Or.inl ⟨by rfl, ?_⟩) hHeld ?_
        rotate_left
        · intro w hSw; obtain ⟨hS0, hS1⟩ := hSw; go_simp; try with_reducible rfl
        rotate_left
        try simp only [Act.put, List.setIfInBounds_toArray, List.set_cons_zero, List.set_cons_succ]
        refine wpAnyH_take (i := 2) (oi := { dst := some 42, op := Go.Op.fieldAddr 34 (Go.Operand.tmp 41) 1, type := 0, pos := "law.go:49", after := #[{ on := 1, ground := Go.Ground.data }], guard := none }) (v := ?_) rfl (by kernel_rfl) (by kernel_rfl) (by kernel_rfl) (fun _ _ _ h => h) (Or.inl ⟨by rfl, ?_⟩) hHeld ?_
        rotate_left
        · intro w hSw; obtain ⟨hS0, hS1⟩ := hSw; go_simp; try with_reducible rfl
        rotate_left
        try simp only [Act.put, List.setIfInBounds_toArray, List.set_cons_zero, List.set_cons_succ]
        refine wpAnyH_take (i := 3) (oi := { dst := some 43, op := Go.Op.load 32 (Go.Operand.tmp 42), type := 32, pos := "law.go:49", after := #[{ on := 2, ground := Go.Ground.data }], guard := none }) (v := ?_) rfl (by kernel_rfl) (by kernel_rfl) (by kernel_rfl) (fun _ _ _ h => h) (Or.inl ⟨by rfl, ?_⟩) hHeld ?_
        rotate_left
        · intro w hSw; obtain ⟨hS0, hS1⟩ := hSw; go_simp; try with_reducible rfl
        rotate_left
        try simp only [Act.put, List.setIfInBounds_toArray, List.set_cons_zero, List.set_cons_succ]
        refine wpAnyH_take (i := 4) (oi := { dst := some 44, op := Go.Op.load 30 (Go.Operand.tmp 2), type := 30, pos := "law.go:49", after := #[], guard := none }) (v := ?_) rfl (by kernel_rfl) (by kernel_rfl) (by kernel_rfl) (fun _ _ _ h => h) (Or.inl ⟨by rfl, ?_⟩) hHeld ?_
        rotate_left
        · intro w hSw; obtain ⟨hS0, hS1⟩ := hSw; go_simp; try with_reducible rfl
        rotate_left
        try simp only [Act.put, List.setIfInBounds_toArray, List.set_cons_zero, List.set_cons_succ]
        refine wpAnyH_take (i := 5) (oi := { dst := some 45, op := Go.Op.nilCheck (Go.Operand.tmp 44), type := 0, pos := "law.go:49", after := #[{ on := 4, ground := Go.Ground.data }], guard := none }) (v := ?_) rfl (by kernel_rfl) (by kernel_rfl) (by kernel_rfl) (fun _ _ _ h => h) (Or.inl ⟨by rfl, ?_⟩) hHeld ?_
        rotate_left
        · intro w hSw; obtain ⟨hS0, hS1⟩ := hSw; go_simp; try with_reducible rfl
        rotate_left
        try simp only [Act.put, List.setIfInBounds_toArray, List.set_cons_zero, List.set_cons_succ]
        refine wpAnyH_take (i := 6) (oi := { dst := some 46, op := Go.Op.fieldAddr 34 (Go.Operand.tmp 45) 1, type := 0, pos := "law.go:49", after := #[{ on := 5, ground := Go.Ground.data }], guard := none }) (v := ?_) rfl (by kernel_rfl) (by kernel_rfl) (by kernel_rfl) (fun _ _ _ h => h) (Or.inl ⟨by rfl, ?_⟩) hHeld ?_
        rotate_left
        · intro w hSw; obtain ⟨hS0, hS1⟩ := hSw; go_simp; try with_reducible rfl
        rotate_left
        try simp only [Act.put, List.setIfInBounds_toArray, List.set_cons_zero, List.set_cons_succ]
        refine wpAnyH_take (i := 7) (oi := { dst := some 47, op := Go.Op.load 32 (Go.Operand.tmp 46), type := 32, pos := "law.go:49", after := #[{ on := 6, ground := Go.Ground.data }], guard := none }) (v := ?_) rfl (by kernel_rfl) (by kernel_rfl) (by kernel_rfl) (fun _ _ _ h => h) (Or.inl ⟨by rfl, ?_⟩) hHeld ?_
        rotate_left
        · intro w hSw; obtain ⟨hS0, hS1⟩ := hSw; go_simp; try with_reducible rfl
        rotate_left
        try simp only [Act.put, List.setIfInBounds_toArray, List.set_cons_zero, List.set_cons_succ]
        refine wpAnyH_take (i := 8) (oi := { dst := some 48, op := Go.Op.nilCheck (Go.Operand.tmp 47), type := 0, pos := "law.go:49", after := #[{ on := 7, ground := Go.Ground.data }], guard := none }) (v := ?_) rfl (by kernel_rfl) (by kernel_rfl) (by kernel_rfl) (fun _ _ _ h => h) (Or.inl ⟨by rfl, ?_⟩) hHeld ?_
        rotate_left
        · intro w hSw; obtain ⟨hS0, hS1⟩ := hSw; go_simp; try with_reducible rfl
        rotate_left
        try simp only [Act.put, List.setIfInBounds_toArray, List.set_cons_zero, List.set_cons_succ]
        refine wpAnyH_take (i := 10) (oi := { dst := some 50, op := Go.Op.move (Go.Operand.tmp 0), type := 3, pos := "law.go:49", after := #[], guard := none }) (v := ?_) rfl (by kernel_rfl) (by kernel_rfl) (by kernel_rfl) (fun _ _ _ h => h) (Or.inl ⟨by rfl, ?_⟩) hHeld ?_
        rotate_left
        · intro w hSw; obtain ⟨hS0, hS1⟩ := hSw; go_simp; try with_reducible rfl
        rotate_left
        try simp only [Act.put, List.setIfInBounds_toArray, List.set_cons_zero, List.set_cons_succ]
        refine wpAnyH_ready (rs := [9, 11]) (by kernel_rfl) (by simp) ?_
        refine AllReadyH.cons (o := { dst := some 49, op := Go.Op.load 31 (Go.Operand.tmp 48), type := 31, pos := "law.go:49", after := #[{ on := 8, ground := Go.Ground.data }], guard := none }) rfl (fun K hK => ?_) (AllReadyH.cons (o := { dst := some 51, op := Go.Op.buildSlice 31 1 #[(0, Go.Operand.tmp 50)], type := 31, pos := "law.go:49", after := #[{ on := 10, ground := Go.Ground.data }], guard := none }) rfl (fun K hK => ?_) AllReadyH.nil)
        · go_simp
          refine hK.out _ _ ⟨e0, q1⟩ (fun hHeld => ?_)
          clear hK K
          try simp only [Act.put, List.setIfInBounds_toArray, List.set_cons_zero, List.set_cons_succ]
          refine wpAnyH_ready (rs := [11]) (by kernel_rfl) (by simp) ?_
          refine AllReadyH.cons (o := { dst := some 51, op := Go.Op.buildSlice 31 1 #[(0, Go.Operand.tmp 50)], type := 31, pos := "law.go:49", after := #[{ on := 10, ground := Go.Ground.data }], guard := none }) rfl (fun K hK => ?_) AllReadyH.nil
          go_simp
          refine hK.out _ _ ⟨u0, u1⟩ (fun hHeld => ?_)
          clear hK K
          try simp only [Act.put, List.setIfInBounds_toArray, List.set_cons_zero, List.set_cons_succ]
          refine wpAnyH_ready (rs := [12]) (by kernel_rfl) (by simp) ?_
          refine AllReadyH.cons (o := { dst := some 52, op := Go.Op.call { callee := Go.Callee.builtin Go.Builtin.append, args := #[Go.Operand.tmp 49, Go.Operand.tmp 51], argTypes := #[31, 31] }, type := 31, pos := "law.go:49", after := #[{ on := 9, ground := Go.Ground.data }, { on := 11, ground := Go.Ground.data }], guard := none }) rfl (fun K hK => ?_) AllReadyH.nil
          refine step_append_lies _ (by rfl) _ _ _ (by rfl) P.B 3 i0 _ 1 8 Try.underlying31 hi0 hz0 hz1 hz2 rfl (by omega) vg (s3.gt j).length (intVs (s3.gt j)) (by rfl) ((hog.alloc _).drew) ⟨W3.heap.size, 0, none⟩ 1 1 [.int .i64 i] (by rfl) (by rfl) (World.news_of_block (cs := #[.int .i64 i]) (t := 3) (fr := (0, 0)) (heap_alloc_new W3 _)) (by simp [Value.oneCell']) (by omega) (by simp only [maxLen]; omega) (by omega) (by simp; omega) (W3.heap.size + 1) (by simp) ?_
          intro gg cap w9 hown1 hgrow hat hlt
          have p0 : w9.cell? ⟨bw, 0, none⟩ = some (ptr (P.wb j)) := (hgrow.cell_far ⟨bw, 0, none⟩ (by simp; omega) n0).trans u0
          have p1 : w9.cell? ⟨P.wb j, 1, none⟩ = some (.pointer (some ⟨gb, 0, none⟩)) := (hgrow.cell_far ⟨P.wb j, 1, none⟩ (by simp; omega) n1).trans u1
          have p2 : w9.cell? ⟨gb, 0, none⟩ = some vg := (hgrow.cell_far ⟨gb, 0, none⟩ (by simp; omega) n2).trans u2
          have pf : w9.frozen? ⟨gb, 0, none⟩ = false := (hgrow.frozen_far ⟨gb, 0, none⟩ (by simp; omega) n2).trans uf
          refine hK.out _ _ ⟨p0, p1⟩ (fun hHeld => ?_)
          clear hK K
          try simp only [Act.put, List.setIfInBounds_toArray, List.set_cons_zero, List.set_cons_succ]
          refine wpAnyH_ready (rs := [13]) (by kernel_rfl) (by simp) ?_
          refine AllReadyH.cons (o := { dst := some 53, op := Go.Op.nilCheck (Go.Operand.tmp 43), type := 0, pos := "law.go:49", after := #[{ on := 3, ground := Go.Ground.data }, { on := 0, ground := Go.Ground.phase }, { on := 1, ground := Go.Ground.phase }, { on := 2, ground := Go.Ground.phase }, { on := 3, ground := Go.Ground.phase }, { on := 4, ground := Go.Ground.phase }, { on := 5, ground := Go.Ground.phase }, { on := 6, ground := Go.Ground.phase }, { on := 7, ground := Go.Ground.phase }, { on := 8, ground := Go.Ground.phase }, { on := 9, ground := Go.Ground.phase }, { on := 10, ground := Go.Ground.phase }, { on := 11, ground := Go.Ground.phase }, { on := 12, ground := Go.Ground.phase }], guard := none }) rfl (fun K hK => ?_) AllReadyH.nil
          go_simp
          refine hK.out _ _ ⟨p0, p1⟩ (fun hHeld => ?_)
          clear hK K
          try simp only [Act.put, List.setIfInBounds_toArray, List.set_cons_zero, List.set_cons_succ]
          refine wpAnyH_ready (rs := [14]) (by kernel_rfl) (by simp) ?_
          refine AllReadyH.cons (o := { dst := none, op := Go.Op.store 31 (Go.Operand.tmp 53) (Go.Operand.tmp 52), type := 0, pos := "law.go:49", after := #[{ on := 13, ground := Go.Ground.data }, { on := 12, ground := Go.Ground.data }, { on := 12, ground := Go.Ground.chain }, { on := 0, ground := Go.Ground.phase }, { on := 1, ground := Go.Ground.phase }, { on := 2, ground := Go.Ground.phase }, { on := 3, ground := Go.Ground.phase }, { on := 4, ground := Go.Ground.phase }, { on := 5, ground := Go.Ground.phase }, { on := 6, ground := Go.Ground.phase }, { on := 7, ground := Go.Ground.phase }, { on := 8, ground := Go.Ground.phase }, { on := 9, ground := Go.Ground.phase }, { on := 10, ground := Go.Ground.phase }, { on := 11, ground := Go.Ground.phase }, { on := 12, ground := Go.Ground.phase }], guard := none }) rfl (fun K hK => ?_) AllReadyH.nil
          go_simp
          refine hK.out _ _ ⟨(World.cell?_setCell_far _ _ _ _ nb0).trans p0, (World.cell?_setCell_far _ _ _ _ nb1).trans p1⟩ (fun hHeld => ?_)
          clear hK K
          try simp only [Act.put, List.setIfInBounds_toArray, List.set_cons_zero, List.set_cons_succ]
          refine wpAnyH_done (by kernel_rfl) ?_ _
          obtain ⟨a1, a2⟩ := hiW.app_g hG j gb hj hgb u2 hown1 hgrow hat (by simp) hsg
          go_wp2_with fail
          go_meet
          case rel => rw [e]; exact ⟨a1, (f3.trans frW).trans a2⟩
        · go_simp
          refine hK.out _ _ ⟨u0, u1⟩ (fun hHeld => ?_)
          clear hK K
          try simp only [Act.put, List.setIfInBounds_toArray, List.set_cons_zero, List.set_cons_succ]
          refine wpAnyH_ready (rs := [9]) (by kernel_rfl) (by simp) ?_
          refine AllReadyH.cons (o := { dst := some 49, op := Go.Op.load 31 (Go.Operand.tmp 48), type := 31, pos := "law.go:49", after := #[{ on := 8, ground := Go.Ground.data }], guard := none }) rfl (fun K hK => ?_) AllReadyH.nil
          go_simp
          refine hK.out _ _ ⟨u0, u1⟩ (fun hHeld => ?_)
          clear hK K
          try simp only [Act.put, List.setIfInBounds_toArray, List.set_cons_zero, List.set_cons_succ]
          refine wpAnyH_ready (rs := [12]) (by kernel_rfl) (by simp) ?_
          refine AllReadyH.cons (o := { dst := some 52, op := Go.Op.call { callee := Go.Callee.builtin Go.Builtin.append, args := #[Go.Operand.tmp 49, Go.Operand.tmp 51], argTypes := #[31, 31] }, type := 31, pos := "law.go:49", after := #[{ on := 9, ground := Go.Ground.data }, { on := 11, ground := Go.Ground.data }], guard := none }) rfl (fun K hK => ?_) AllReadyH.nil
          refine step_append_lies _ (by rfl) _ _ _ (by rfl) P.B 3 i0 _ 1 8 Try.underlying31 hi0 hz0 hz1 hz2 rfl (by omega) vg (s3.gt j).length (intVs (s3.gt j)) (by rfl) ((hog.alloc _).drew) ⟨W3.heap.size, 0, none⟩ 1 1 [.int .i64 i] (by rfl) (by rfl) (World.news_of_block (cs := #[.int .i64 i]) (t := 3) (fr := (0, 0)) (heap_alloc_new W3 _)) (by simp [Value.oneCell']) (by omega) (by simp only [maxLen]; omega) (by omega) (by simp; omega) (W3.heap.size + 1) (by simp) ?_
          intro gg cap w9 hown1 hgrow hat hlt
          have p0 : w9.cell? ⟨bw, 0, none⟩ = some (ptr (P.wb j)) := (hgrow.cell_far ⟨bw, 0, none⟩ (by simp; omega) n0).trans u0
          have p1 : w9.cell? ⟨P.wb j, 1, none⟩ = some (.pointer (some ⟨gb, 0, none⟩)) := (hgrow.cell_far ⟨P.wb j, 1, none⟩ (by simp; omega) n1).trans u1
          have p2 : w9.cell? ⟨gb, 0, none⟩ = some vg := (hgrow.cell_far ⟨gb, 0, none⟩ (by simp; omega) n2).trans u2
          have pf : w9.frozen? ⟨gb, 0, none⟩ = false := (hgrow.frozen_far ⟨gb, 0, none⟩ (by simp; omega) n2).trans uf
          refine hK.out _ _ ⟨p0, p1⟩ (fun hHeld => ?_)
          clear hK K
          try simp only [Act.put, List.setIfInBounds_toArray, List.set_cons_zero, List.set_cons_succ]
          refine wpAnyH_ready (rs := [13]) (by kernel_rfl) (by simp) ?_
          refine AllReadyH.cons (o := { dst := some 53, op := Go.Op.nilCheck (Go.Operand.tmp 43), type := 0, pos := "law.go:49", after := #[{ on := 3, ground := Go.Ground.data }, { on := 0, ground := Go.Ground.phase }, { on := 1, ground := Go.Ground.phase }, { on := 2, ground := Go.Ground.phase }, { on := 3, ground := Go.Ground.phase }, { on := 4, ground := Go.Ground.phase }, { on := 5, ground := Go.Ground.phase }, { on := 6, ground := Go.Ground.phase }, { on := 7, ground := Go.Ground.phase }, { on := 8, ground := Go.Ground.phase }, { on := 9, ground := Go.Ground.phase }, { on := 10, ground := Go.Ground.phase }, { on := 11, ground := Go.Ground.phase }, { on := 12, ground := Go.Ground.phase }], guard := none }) rfl (fun K hK => ?_) AllReadyH.nil
          go_simp
          refine hK.out _ _ ⟨p0, p1⟩ (fun hHeld => ?_)
          clear hK K
          try simp only [Act.put, List.setIfInBounds_toArray, List.set_cons_zero, List.set_cons_succ]
          refine wpAnyH_ready (rs := [14]) (by kernel_rfl) (by simp) ?_
          refine AllReadyH.cons (o := { dst := none, op := Go.Op.store 31 (Go.Operand.tmp 53) (Go.Operand.tmp 52), type := 0, pos := "law.go:49", after := #[{ on := 13, ground := Go.Ground.data }, { on := 12, ground := Go.Ground.data }, { on := 12, ground := Go.Ground.chain }, { on := 0, ground := Go.Ground.phase }, { on := 1, ground := Go.Ground.phase }, { on := 2, ground := Go.Ground.phase }, { on := 3, ground := Go.Ground.phase }, { on := 4, ground := Go.Ground.phase }, { on := 5, ground := Go.Ground.phase }, { on := 6, ground := Go.Ground.phase }, { on := 7, ground := Go.Ground.phase }, { on := 8, ground := Go.Ground.phase }, { on := 9, ground := Go.Ground.phase }, { on := 10, ground := Go.Ground.phase }, { on := 11, ground := Go.Ground.phase }, { on := 12, ground := Go.Ground.phase }], guard := none }) rfl (fun K hK => ?_) AllReadyH.nil
          go_simp
          refine hK.out _ _ ⟨(World.cell?_setCell_far _ _ _ _ nb0).trans p0, (World.cell?_setCell_far _ _ _ _ nb1).trans p1⟩ (fun hHeld => ?_)
          clear hK K
          try simp only [Act.put, List.setIfInBounds_toArray, List.set_cons_zero, List.set_cons_succ]
          refine wpAnyH_done (by kernel_rfl) ?_ _
          obtain ⟨a1, a2⟩ := hiW.app_g hG j gb hj hgb u2 hown1 hgrow hat (by simp) hsg
          go_wp2_with fail
          go_meet
          case rel => rw [e]; exact ⟨a1, (f3.trans frW).trans a2⟩
        --R4>
    case rest =>
      obtain ⟨hi4, f4⟩ := hcut
      clear hi3 f3 hl3 ho3 e0 q1
      have mv4 : Mv P.B (P.L ++ P.ex) P.ws w' wc := f4.mv
      obtain ⟨y0, y1, y2, hB⟩ : (SM P).Bx wc bw 30 #[ptr (P.wb j)] ∧ (SM P).Bx wc bs 27 (stC P) ∧ (SM P).Bx wc bl 22 #[.slice A (l.length + 1) cp] ∧ BL P wc (tailO A cp) l := ⟨z0.mv mv4, z1.mv mv4, z2.mv mv4, zB.mv mv4⟩
      have hz4 : ((s3.gota (P.has j) j i).hs j).length + r + 1 ≤ 5000 := by
        have h := hz3.1
        unfold SSt.gota
        split <;> exact h
      have f3 := f4
      clear f4 mv4
      generalize s3.gota (P.has j) j i = s4 at *
      generalize wc = W3 at *
      go_upto_if 54 with (fail)
      go_cut [62] (fun _ wc => SI P r (s4.handa j i ok) wc ∧ Fr P.L P.ws w' wc)
      case first =>
        clear ht
        cases ok with
        | false =>
          go_wp2_with fail
          go_meet
          case rel => exact ⟨hi4, f3⟩
        | true =>
          have hpi := HK.out.1 rfl
          obtain ⟨vg, hlg, hog⟩ := hi4.wk j hj
          have e0 := y0.cell
          have e1 : W3.cell? ⟨P.wb j, 0, none⟩ = some vg := hlg.cell 0
          have tuW : Turns [] W3 (W3.alloc (.cells #[.int .i64 i] 3)).drew := ((Turns.refl [] _).alloc _).drew
          have hiW := SI.tasks (Mv.of_turns tuW (by simp) (fun x hx => by cases hx)) hi4
          have frW := (hM.okw _ _ _ hi4).fr hM tuW
          have u0 := (tuW.cell (p := ⟨bw, 0, none⟩) y0.lt (by simp)).trans e0
          have u2 := (tuW.cell (p := ⟨P.wb j, 0, none⟩) hlg.lt (by simp)).trans e1
          have uf : (W3.alloc (.cells #[.int .i64 i] 3)).drew.frozen? ⟨P.wb j, 0, none⟩ = false := (hlg.turn tuW (by simp)).frozen 0
          have lt0 := y0.lt
          have lt2 := hlg.lt
          have n0 := own_ne hog y0.l (by decide)
          have n2 := own_ne hog hlg (by decide)
          have hbase : P.B ≤ W3.heap.size := by have := hG.low.1; have := hi4.ar.head.lt; omega
          have hsg := hz4
          have nb0 : P.wb j ≠ bw := fun h => by rw [h] at hlg; exact hlg.unlike y0.l (by decide) rfl
          obtain ⟨i0, hi0, hz0, hz1, hz2⟩ := info_parts int_info8
          go_wp2_with fail
        --R6<
          refine wp_region_held_drew (S := fun W' => W'.cell? ⟨bw, 0, none⟩ = some (ptr (P.wb j)) ∧ True) (by kernel_rfl) ⟨e0, trivial⟩ (fun hHeld => ?_)
          refine wpAnyH_take (i := 0) (oi := { dst := some 55, op := Go.Op.load 30 (Go.Operand.tmp 2), type := 30, pos := "law.go:52", after := #[], guard := none }) (v := ?_) rfl (by kernel_rfl) (by kernel_rfl) (by kernel_rfl) (fun _ _ _ h => h) (Or.inl ⟨by rfl, ?_⟩) hHeld ?_
          rotate_left
          · intro w hSw; obtain ⟨hS0, hS1⟩ := hSw; go_simp; try with_reducible rfl
          rotate_left
          try simp only [Act.put, List.setIfInBounds_toArray, List.set_cons_zero, List.set_cons_succ]
          refine wpAnyH_take (i := 1) (oi := { dst := some 56, op := Go.Op.load 30 (Go.Operand.tmp 2), type := 30, pos := "law.go:52", after := #[], guard := none }) (v := ?_) rfl (by kernel_rfl) (by kernel_rfl) (by kernel_rfl) (fun _ _ _ h => h) (Or.inl ⟨by rfl, ?_⟩) hHeld ?_
          rotate_left
          · intro w hSw; obtain ⟨hS0, hS1⟩ := hSw; go_simp; try with_reducible rfl
          rotate_left
          try simp only [Act.put, List.setIfInBounds_toArray, List.set_cons_zero, List.set_cons_succ]
          refine wpAnyH_take (i := 2) (oi := { dst := some 57, op := Go.Op.nilCheck (Go.Operand.tmp 56), type := 0, pos := "law.go:52", after := #[{ on := 1, ground := Go.Ground.data }], guard := none }) (v := ?_) rfl (by kernel_rfl) (by kernel_rfl) (by kernel_rfl) (fun _ _ _ h => h) (Or.inl ⟨by rfl, ?_⟩) hHeld ?_
          rotate_left
          · intro w hSw; obtain ⟨hS0, hS1⟩ := hSw; go_simp; try with_reducible rfl
          rotate_left
          try simp only [Act.put, List.setIfInBounds_toArray, List.set_cons_zero, List.set_cons_succ]
          refine wpAnyH_take (i := 3) (oi := { dst := some 58, op := Go.Op.fieldAddr 34 (Go.Operand.tmp 57) 0, type := 0, pos := "law.go:52", after := #[{ on := 2, ground := Go.Ground.data }], guard := none }) (v := ?_) rfl (by kernel_rfl) (by kernel_rfl) (by kernel_rfl) (fun _ _ _ h => h) (Or.inl ⟨by rfl, ?_⟩) hHeld ?_
          rotate_left
          · intro w hSw; obtain ⟨hS0, hS1⟩ := hSw; go_simp; try with_reducible rfl
          rotate_left
          try simp only [Act.put, List.setIfInBounds_toArray, List.set_cons_zero, List.set_cons_succ]
          refine wpAnyH_take (i := 5) (oi := { dst := some 60, op := Go.Op.move (Go.Operand.tmp 0), type := 3, pos := "law.go:52", after := #[], guard := none }) (v := ?_) rfl (by kernel_rfl) (by kernel_rfl) (by kernel_rfl) (fun _ _ _ h => h) (Or.inl ⟨by rfl, ?_⟩) hHeld ?_
          rotate_left
          · intro w hSw; obtain ⟨hS0, hS1⟩ := hSw; go_simp; try with_reducible rfl
          rotate_left
          try simp only [Act.put, List.setIfInBounds_toArray, List.set_cons_zero, List.set_cons_succ]
          refine wpAnyH_ready (rs := [4, 6]) (by kernel_rfl) (by simp) ?_
          refine AllReadyH.cons (o := { dst := some 59, op := Go.Op.load 31 (Go.Operand.tmp 58), type := 31, pos := "law.go:52", after := #[{ on := 3, ground := Go.Ground.data }], guard := none }) rfl (fun K hK => ?_) (AllReadyH.cons (o := { dst := some 61, op := Go.Op.buildSlice 31 1 #[(0, Go.Operand.tmp 60)], type := 31, pos := "law.go:52", after := #[{ on := 5, ground := Go.Ground.data }], guard := none }) rfl (fun K hK => ?_) AllReadyH.nil)
          · go_simp
            refine hK.out _ _ ⟨e0, trivial⟩ (fun hHeld => ?_)
            clear hK K
            try simp only [Act.put, List.setIfInBounds_toArray, List.set_cons_zero, List.set_cons_succ]
            refine wpAnyH_ready (rs := [6]) (by kernel_rfl) (by simp) ?_
            refine AllReadyH.cons (o := { dst := some 61, op := Go.Op.buildSlice 31 1 #[(0, Go.Operand.tmp 60)], type := 31, pos := "law.go:52", after := #[{ on := 5, ground := Go.Ground.data }], guard := none }) rfl (fun K hK => ?_) AllReadyH.nil
            go_simp
            refine hK.out _ _ ⟨u0, trivial⟩ (fun hHeld => ?_)
            clear hK K
            try simp only [Act.put, List.setIfInBounds_toArray, List.set_cons_zero, List.set_cons_succ]
            refine wpAnyH_ready (rs := [7]) (by kernel_rfl) (by simp) ?_
            refine AllReadyH.cons (o := { dst := some 62, op := Go.Op.call { callee := Go.Callee.builtin Go.Builtin.append, args := #[Go.Operand.tmp 59, Go.Operand.tmp 61], argTypes := #[31, 31] }, type := 31, pos := "law.go:52", after := #[{ on := 4, ground := Go.Ground.data }, { on := 6, ground := Go.Ground.data }], guard := none }) rfl (fun K hK => ?_) AllReadyH.nil
            refine step_append_lies _ (by rfl) _ _ _ (by rfl) P.B 3 i0 _ 1 8 Try.underlying31 hi0 hz0 hz1 hz2 rfl (by omega) vg (s4.hs j).length (intVs (s4.hs j)) (by rfl) ((hog.alloc _).drew) ⟨W3.heap.size, 0, none⟩ 1 1 [.int .i64 i] (by rfl) (by rfl) (World.news_of_block (cs := #[.int .i64 i]) (t := 3) (fr := (0, 0)) (heap_alloc_new W3 _)) (by simp [Value.oneCell']) (by omega) (by simp only [maxLen]; omega) (by omega) (by simp; omega) (W3.heap.size + 1) (by simp) ?_
            intro gg cap w9 hown1 hgrow hat hlt
            have p0 : w9.cell? ⟨bw, 0, none⟩ = some (ptr (P.wb j)) := (hgrow.cell_far ⟨bw, 0, none⟩ (by simp; omega) n0).trans u0
            have p2 : w9.cell? ⟨P.wb j, 0, none⟩ = some vg := (hgrow.cell_far ⟨P.wb j, 0, none⟩ (by simp; omega) n2).trans u2
            have pf : w9.frozen? ⟨P.wb j, 0, none⟩ = false := (hgrow.frozen_far ⟨P.wb j, 0, none⟩ (by simp; omega) n2).trans uf
            refine hK.out _ _ ⟨p0, trivial⟩ (fun hHeld => ?_)
            clear hK K
            try simp only [Act.put, List.setIfInBounds_toArray, List.set_cons_zero, List.set_cons_succ]
            refine wpAnyH_ready (rs := [8]) (by kernel_rfl) (by simp) ?_
            refine AllReadyH.cons (o := { dst := some 63, op := Go.Op.nilCheck (Go.Operand.tmp 55), type := 0, pos := "law.go:52", after := #[{ on := 0, ground := Go.Ground.data }, { on := 0, ground := Go.Ground.phase }, { on := 1, ground := Go.Ground.phase }, { on := 2, ground := Go.Ground.phase }, { on := 3, ground := Go.Ground.phase }, { on := 4, ground := Go.Ground.phase }, { on := 5, ground := Go.Ground.phase }, { on := 6, ground := Go.Ground.phase }, { on := 7, ground := Go.Ground.phase }], guard := none }) rfl (fun K hK => ?_) AllReadyH.nil
            go_simp
            refine hK.out _ _ ⟨p0, trivial⟩ (fun hHeld => ?_)
            clear hK K
            try simp only [Act.put, List.setIfInBounds_toArray, List.set_cons_zero, List.set_cons_succ]
            refine wpAnyH_ready (rs := [9]) (by kernel_rfl) (by simp) ?_
            refine AllReadyH.cons (o := { dst := some 64, op := Go.Op.fieldAddr 34 (Go.Operand.tmp 63) 0, type := 0, pos := "law.go:52", after := #[{ on := 8, ground := Go.Ground.data }, { on := 0, ground := Go.Ground.phase }, { on := 1, ground := Go.Ground.phase }, { on := 2, ground := Go.Ground.phase }, { on := 3, ground := Go.Ground.phase }, { on := 4, ground := Go.Ground.phase }, { on := 5, ground := Go.Ground.phase }, { on := 6, ground := Go.Ground.phase }, { on := 7, ground := Go.Ground.phase }], guard := none }) rfl (fun K hK => ?_) AllReadyH.nil
            go_simp
            refine hK.out _ _ ⟨p0, trivial⟩ (fun hHeld => ?_)
            clear hK K
            try simp only [Act.put, List.setIfInBounds_toArray, List.set_cons_zero, List.set_cons_succ]
            refine wpAnyH_ready (rs := [10]) (by kernel_rfl) (by simp) ?_
            refine AllReadyH.cons (o := { dst := none, op := Go.Op.store 31 (Go.Operand.tmp 64) (Go.Operand.tmp 62), type := 0, pos := "law.go:52", after := #[{ on := 9, ground := Go.Ground.data }, { on := 7, ground := Go.Ground.data }, { on := 7, ground := Go.Ground.chain }, { on := 0, ground := Go.Ground.phase }, { on := 1, ground := Go.Ground.phase }, { on := 2, ground := Go.Ground.phase }, { on := 3, ground := Go.Ground.phase }, { on := 4, ground := Go.Ground.phase }, { on := 5, ground := Go.Ground.phase }, { on := 6, ground := Go.Ground.phase }, { on := 7, ground := Go.Ground.phase }], guard := none }) rfl (fun K hK => ?_) AllReadyH.nil
            go_simp
            refine hK.out _ _ ⟨(World.cell?_setCell_far _ _ _ _ nb0).trans p0, trivial⟩ (fun hHeld => ?_)
            clear hK K
            try simp only [Act.put, List.setIfInBounds_toArray, List.set_cons_zero, List.set_cons_succ]
            refine wpAnyH_done (by kernel_rfl) ?_ _
            obtain ⟨a1, a2⟩ := hiW.app_h hG j hj u2 hown1 hgrow hat (by simp) hpi hsg
            go_wp2_with fail
            go_meet
            case rel => exact ⟨a1, (f3.trans frW).trans a2⟩
          · go_simp
            refine hK.out _ _ ⟨u0, trivial⟩ (fun hHeld => ?_)
            clear hK K
            try simp only [Act.put, List.setIfInBounds_toArray, List.set_cons_zero, List.set_cons_succ]
            refine wpAnyH_ready (rs := [4]) (by kernel_rfl) (by simp) ?_
            refine AllReadyH.cons (o := { dst := some 59, op := Go.Op.load 31 (Go.Operand.tmp 58), type := 31, pos := "law.go:52", after := #[{ on := 3, ground := Go.Ground.data }], guard := none }) rfl (fun K hK => ?_) AllReadyH.nil
            go_simp
            refine hK.out _ _ ⟨u0, trivial⟩ (fun hHeld => ?_)
            clear hK K
            try simp only [Act.put, List.setIfInBounds_toArray, List.set_cons_zero, List.set_cons_succ]
            refine wpAnyH_ready (rs := [7]) (by kernel_rfl) (by simp) ?_
            refine AllReadyH.cons (o := { dst := some 62, op := Go.Op.call { callee := Go.Callee.builtin Go.Builtin.append, args := #[Go.Operand.tmp 59, Go.Operand.tmp 61], argTypes := #[31, 31] }, type := 31, pos := "law.go:52", after := #[{ on := 4, ground := Go.Ground.data }, { on := 6, ground := Go.Ground.data }], guard := none }) rfl (fun K hK => ?_) AllReadyH.nil
            refine step_append_lies _ (by rfl) _ _ _ (by rfl) P.B 3 i0 _ 1 8 Try.underlying31 hi0 hz0 hz1 hz2 rfl (by omega) vg (s4.hs j).length (intVs (s4.hs j)) (by rfl) ((hog.alloc _).drew) ⟨W3.heap.size, 0, none⟩ 1 1 [.int .i64 i] (by rfl) (by rfl) (World.news_of_block (cs := #[.int .i64 i]) (t := 3) (fr := (0, 0)) (heap_alloc_new W3 _)) (by simp [Value.oneCell']) (by omega) (by simp only [maxLen]; omega) (by omega) (by simp; omega) (W3.heap.size + 1) (by simp) ?_
            intro gg cap w9 hown1 hgrow hat hlt
            have p0 : w9.cell? ⟨bw, 0, none⟩ = some (ptr (P.wb j)) := (hgrow.cell_far ⟨bw, 0, none⟩ (by simp; omega) n0).trans u0
            have p2 : w9.cell? ⟨P.wb j, 0, none⟩ = some vg := (hgrow.cell_far ⟨P.wb j, 0, none⟩ (by simp; omega) n2).trans u2
            have pf : w9.frozen? ⟨P.wb j, 0, none⟩ = false := (hgrow.frozen_far ⟨P.wb j, 0, none⟩ (by simp; omega) n2).trans uf
            refine hK.out _ _ ⟨p0, trivial⟩ (fun hHeld => ?_)
            clear hK K
            try simp only [Act.put, List.setIfInBounds_toArray, List.set_cons_zero, List.set_cons_succ]
            refine wpAnyH_ready (rs := [8]) (by kernel_rfl) (by simp) ?_
            refine AllReadyH.cons (o := { dst := some 63, op := Go.Op.nilCheck (Go.Operand.tmp 55), type := 0, pos := "law.go:52", after := #[{ on := 0, ground := Go.Ground.data }, { on := 0, ground := Go.Ground.phase }, { on := 1, ground := Go.Ground.phase }, { on := 2, ground := Go.Ground.phase }, { on := 3, ground := Go.Ground.phase }, { on := 4, ground := Go.Ground.phase }, { on := 5, ground := Go.Ground.phase }, { on := 6, ground := Go.Ground.phase }, { on := 7, ground := Go.Ground.phase }], guard := none }) rfl (fun K hK => ?_) AllReadyH.nil
            go_simp
            refine hK.out _ _ ⟨p0, trivial⟩ (fun hHeld => ?_)
            clear hK K
            try simp only [Act.put, List.setIfInBounds_toArray, List.set_cons_zero, List.set_cons_succ]
            refine wpAnyH_ready (rs := [9]) (by kernel_rfl) (by simp) ?_
            refine AllReadyH.cons (o := { dst := some 64, op := Go.Op.fieldAddr 34 (Go.Operand.tmp 63) 0, type := 0, pos := "law.go:52", after := #[{ on := 8, ground := Go.Ground.data }, { on := 0, ground := Go.Ground.phase }, { on := 1, ground := Go.Ground.phase }, { on := 2, ground := Go.Ground.phase }, { on := 3, ground := Go.Ground.phase }, { on := 4, ground := Go.Ground.phase }, { on := 5, ground := Go.Ground.phase }, { on := 6, ground := Go.Ground.phase }, { on := 7, ground := Go.Ground.phase }], guard := none }) rfl (fun K hK => ?_) AllReadyH.nil
            go_simp
            refine hK.out _ _ ⟨p0, trivial⟩ (fun hHeld => ?_)
            clear hK K
            try simp only [Act.put, List.setIfInBounds_toArray, List.set_cons_zero, List.set_cons_succ]
            refine wpAnyH_ready (rs := [10]) (by kernel_rfl) (by simp) ?_
            refine AllReadyH.cons (o := { dst := none, op := Go.Op.store 31 (Go.Operand.tmp 64) (Go.Operand.tmp 62), type := 0, pos := "law.go:52", after := #[{ on := 9, ground := Go.Ground.data }, { on := 7, ground := Go.Ground.data }, { on := 7, ground := Go.Ground.chain }, { on := 0, ground := Go.Ground.phase }, { on := 1, ground := Go.Ground.phase }, { on := 2, ground := Go.Ground.phase }, { on := 3, ground := Go.Ground.phase }, { on := 4, ground := Go.Ground.phase }, { on := 5, ground := Go.Ground.phase }, { on := 6, ground := Go.Ground.phase }, { on := 7, ground := Go.Ground.phase }], guard := none }) rfl (fun K hK => ?_) AllReadyH.nil
            go_simp
            refine hK.out _ _ ⟨(World.cell?_setCell_far _ _ _ _ nb0).trans p0, trivial⟩ (fun hHeld => ?_)
            clear hK K
            try simp only [Act.put, List.setIfInBounds_toArray, List.set_cons_zero, List.set_cons_succ]
            refine wpAnyH_done (by kernel_rfl) ?_ _
            obtain ⟨a1, a2⟩ := hiW.app_h hG j hj u2 hown1 hgrow hat (by simp) hpi hsg
            go_wp2_with fail
            go_meet
            case rel => exact ⟨a1, (f3.trans frW).trans a2⟩
        --R6>
      case rest =>
        obtain ⟨hi5, f5⟩ := hcut
        have mv5 : Mv P.B (P.L ++ P.ex) P.ws w' wc := f5.mv
        clear y0 y1 y2 hi4 f3
        obtain ⟨y0, y1, y2, hB⟩ : (SM P).Bx wc bw 30 #[ptr (P.wb j)] ∧ (SM P).Bx wc bs 27 (stC P) ∧ (SM P).Bx wc bl 22 #[.slice A (l.length + 1) cp] ∧ BL P wc (tailO A cp) l := ⟨z0.mv mv5, z1.mv mv5, z2.mv mv5, zB.mv mv5⟩
        clear z0 z1 z2 zB mv5
        generalize wc = W3 at *
        have hsl := slice_tail1 (t := 22) (e := 4) Try.underlying22 (by kernel_rfl) A (l.length + 1) cp (by omega)
        rw [Nat.add_sub_cancel] at hsl
        have e0 := y0.cell
        have e2 := y2.cell
        obtain ⟨c0, c1, c2⟩ : W3.cell? ⟨bs, 0, none⟩ = some (ptr P.p) ∧ W3.cell? ⟨bs, 1, none⟩ = some (.int .i64 0) ∧ W3.cell? ⟨bs, 2, none⟩ = some (.func (.func 38) #[] #[]) := ⟨y1.l.cell 0, y1.l.cell 1, y1.l.cell 2⟩
        have tu3 : Turns [] W3 W3.drew := (Turns.refl [] _).drew
        have okw3 := hM.okw _ _ _ hi5
        have hI4 := SI.tasks (Mv.of_turns tu3 (by simp) (fun x hx => by cases hx)) hi5
        have ht := ht _ (hB.mv (okw3.mv hM tu3)) hI4
        have hF4 := f5.trans (okw3.fr hM tu3)
        have oo := (fun (b : Nat) (t : TypeId) (cs : Array Value) (y : (SM P).Bx W3 b t cs) (W : World) (f : Fr P.L P.ws W3.drew W) => (f.lies (y.l.drew) y.out y.row))
        clear hi5 f5 hB
        go_wp2_with fail
        go_region_held3 (fun W' => W'.cell? ⟨bs, 0, none⟩ = some (ptr P.p) ∧ W'.cell? ⟨bs, 1, none⟩ = some (.int .i64 0) ∧ W'.cell? ⟨bs, 2, none⟩ = some (.func (.func 38) #[] #[]) ∧ W'.cell? ⟨bl, 0, none⟩ = some (.slice A (l.length + 1) cp) ∧ W'.cell? ⟨bw, 0, none⟩ = some (ptr (P.wb j)))
          (first | exact ⟨c0, c1, c2, e2, e0⟩ | exact ⟨u0, u1, u2, u3, u4⟩)
          (first
            | (go_at_call 15
               refine ht.mono ?_
               rintro e w5 ⟨v, rfl, hq5, t5⟩
               have o1 := oo _ _ _ y1 _ t5
               have u0 : w5.cell? ⟨bs, 0, none⟩ = some (ptr P.p) := o1.cell 0
               have u1 : w5.cell? ⟨bs, 1, none⟩ = some (.int .i64 0) := o1.cell 1
               have u2 : w5.cell? ⟨bs, 2, none⟩ = some (.func (.func 38) #[] #[]) := o1.cell 2
               have u3 : w5.cell? ⟨bl, 0, none⟩ = some (.slice A (l.length + 1) cp) := (oo _ _ _ y2 _ t5).cell 0
               have u4 : w5.cell? ⟨bw, 0, none⟩ = some (ptr (P.wb j)) := (oo _ _ _ y0 _ t5).cell 0))
        go_wp2
        go_ret
        exact ⟨v, rfl, hq5, hF4.trans t5⟩
end

end Go.Proofs.Ythjbmaeoogophaa

/- Layer 8's code of acts. -/
namespace Go.Proofs.Ythjbmaeoogophaa
open Go.RowKit
set_option maxRecDepth 100000

theorem own_slice {w : World} {B : Nat} {v : Value} {n : Nat} {xs : List Value} (h : w.ownsRow B 3 1 v n xs) : ∃ A c, v = .slice A n c ∧ n ≤ c := by
  rcases h.2 with ⟨rfl, h0⟩ | ⟨g, cap, cur, rfl, _, _, hn, _⟩
  · exact ⟨none, 0, by rw [h0], by omega⟩
  · exact ⟨_, cap, rfl, by omega⟩

section
variable {P : SP}
set_option maxHeartbeats 1000000 in
theorem code_g (hG : P.Good) : ∀ (m : Nat) (l : List Bool), CodeS P m l := by
  intro m
  induction m using Nat.strongRecOn with
  | _ m ih =>
    intro l
    induction l with
    | nil =>
      intro j A cp w r s hj hB hcp hi
      have hM := sm_ok P hG
      have hw := hM.okw _ _ _ hi
      obtain ⟨W2, hW2⟩ : ∃ W2, (((w.alloc (.cells (stC P) 27)).alloc (.cells #[.slice A 0 cp] 22)).alloc (.cells #[ptr (P.wb j)] 30)) = W2 := ⟨_, rfl⟩
      have k2 : Turns [] w W2 := by rw [← hW2]; exact (((Turns.refl _ _).alloc _).alloc _).alloc _
      have l1 : Lies W2 (w.heap.size + 1) 22 #[.slice A 0 cp] := by rw [← hW2]; exact (Lies.new_of _ _ (by simp)).alloc _
      have d0 : W2.cell? ⟨w.heap.size + 1, 0, none⟩ = some (.slice A 0 cp) := l1.cell 0
      have hi2 := SI.tasks (Mv.of_turns k2 (by simp) (fun x hx => by cases hx)) hi
      have f2 := hw.fr hM k2
      show (SM P).Then _ #[stV P, .slice A 0 cp, ptr (P.wb j)] w (fun v w' => SI P r s w' ∧ (SM P).Code m ⟨j, .done, []⟩ v w')
      clear ih
      unfold Gm.Then
      go_enter Try.func15, Try.ntmps15
      go_wp2_with fail
      go_ret
      exact ⟨_, rfl, ⟨hi2, by cases m <;> exact .inl ⟨rfl, rfl⟩⟩, f2⟩
    | cons b l ihl =>
      intro j A cp w r s hj hB hcp hi
      have hM := sm_ok P hG
      have hw := hM.okw _ _ _ hi
      have hcp : l.length + 1 ≤ cp := hcp
      obtain ⟨W2, hW2⟩ : ∃ W2, (((w.alloc (.cells (stC P) 27)).alloc (.cells #[.slice A (l.length + 1) cp] 22)).alloc (.cells #[ptr (P.wb j)] 30)) = W2 := ⟨_, rfl⟩
      have k2 : Turns [] w W2 := by rw [← hW2]; exact (((Turns.refl _ _).alloc _).alloc _).alloc _
      have l0 : Lies W2 w.heap.size 27 (stC P) := by rw [← hW2]; exact ((Lies.new _ _ _).alloc _).alloc _
      have l1 : Lies W2 (w.heap.size + 1) 22 #[.slice A (l.length + 1) cp] := by rw [← hW2]; exact (Lies.new_of _ _ (by simp)).alloc _
      have l2 : Lies W2 (w.heap.size + 1 + 1) 30 #[ptr (P.wb j)] := by rw [← hW2]; exact Lies.new_of _ _ (by simp)
      have y1 := hw.box hM k2 (by omega) l0 (by decide)
      have y2 := hw.box hM k2 (by omega) l1 (by decide)
      have y0 := hw.box hM k2 (by omega) l2 (by decide)
      have hi2 := SI.tasks (Mv.of_turns k2 (by simp) (fun x hx => by cases hx)) hi
      have f2 := hw.fr hM k2
      have hB2 := hB.mv f2.mv
      obtain ⟨a, ha, hc⟩ := hB2.head
      subst ha
      have d0 : W2.cell? ⟨w.heap.size + 1, 0, none⟩ = some (.slice (some a) (l.length + 1) cp) := l1.cell 0
      have e0 := y0.cell
      obtain ⟨c0, c1, c2⟩ : W2.cell? ⟨w.heap.size, 0, none⟩ = some (ptr P.p) ∧ W2.cell? ⟨w.heap.size, 1, none⟩ = some (.int .i64 0) ∧ W2.cell? ⟨w.heap.size, 2, none⟩ = some (.func (.func 38) #[] #[]) := ⟨l0.cell 0, l0.cell 1, l0.cell 2⟩
      have hl1 : ¬ ((l.length : Int) + 1 = 0) := by omega
      obtain ⟨v, hwk, hown⟩ := hi2.wk j hj
      generalize hbs : w.heap.size = bs at *
      cases b with
      | true =>
        have f23 : W2.frozen? ⟨P.wb j, 2, none⟩ = false := hwk.frozen 2
        have f33 : W2.frozen? ⟨P.wb j, 3, none⟩ = false := hwk.frozen 3
        have q2 : W2.cell? ⟨P.wb j, 2, none⟩ = some (.bool (s.bu j)) := hwk.cell 2
        have q3 : W2.cell? ⟨P.wb j, 3, none⟩ = some (.bool (s.ba j)) := hwk.cell 3
        show (SM P).Then _ #[stV P, .slice (some a) (l.length + 1) cp, ptr (P.wb j)] w (fun v w' => SI P r { s with bu := updF s.bu j true, ba := updF s.ba j false } w' ∧ (SM P).Code m ⟨j, .popR, l⟩ v w')
        have hbl := hB2.most
        simp only [List.length_cons] at hbl
        clear ihl hwk hown l0 l1 l2
        unfold Gm.Then
        go_enter Try.func15, Try.ntmps15
        go_upto_region 4 with (fail)
        clear hW2
        go_cut [14] (fun _ wc => SI P r { s with bu := updF s.bu j true, ba := updF s.ba j false } wc ∧ Fr P.L P.ws W2 wc)
        case first =>
          have tud : Turns [] W2 W2.drew := (Turns.refl [] _).drew
          have hi1 := SI.tasks (Mv.of_turns tud (by simp) (fun x hx => by cases hx)) hi2
          have m2 := hi1.mark hG j hj 2 (.inl rfl) true
          have n2 := hi1.mark_fr hG j hj 2 (.inl rfl) true
          have m3 := hi1.mark hG j hj 3 (.inr (.inl rfl)) false
          have n3 := hi1.mark_fr hG j hj 3 (.inr (.inl rfl)) false
          have m23 := m2.mark hG j hj 3 (.inr (.inl rfl)) false
          have n23 := m2.mark_fr hG j hj 3 (.inr (.inl rfl)) false
          have m32 := m3.mark hG j hj 2 (.inl rfl) true
          have n32 := m3.mark_fr hG j hj 2 (.inl rfl) true
          have fd := (hM.okw _ _ _ hi2).fr hM tud
          clear y0 y1 y2 hi hi2 hB hB2 f2
          go_region
          all_goals
            go_wp2_with fail
            go_meet
            case rel => first | exact ⟨m23, (fd.trans n2).trans n23⟩ | exact ⟨m32, (fd.trans n3).trans n32⟩
        case rest =>
          obtain ⟨hi4, f4⟩ := hcut
          have mv4 : Mv P.B (P.L ++ P.ex) P.ws W2 wc := f4.mv
          have y0 := y0.mv mv4
          have y1 := y1.mv mv4
          have y2 := y2.mv mv4
          have hB4 := hB2.mv mv4
          have hp := pop_g (smAr P hG) hM (sm_ch P hG) (sm_pop P hG j l) m 40 #[ptr (bs + 1 + 1), ptr bs, ptr (bs + 1)] wc ent_code1 (hM.okw _ _ _ hi4) (sm_lk P wc) (code1_g hG hj y0 y1 y2 hB4 hcp (fun n hn => ih n hn l))
          obtain ⟨c0, c1, c2⟩ : wc.cell? ⟨bs, 0, none⟩ = some (ptr P.p) ∧ wc.cell? ⟨bs, 1, none⟩ = some (.int .i64 0) ∧ wc.cell? ⟨bs, 2, none⟩ = some (.func (.func 38) #[] #[]) := ⟨y1.l.cell 0, y1.l.cell 1, y1.l.cell 2⟩
          have fin : ∀ W v, Turns [] wc W → (SM P).Code m ⟨j, .popR, l⟩ v W → (SI P r { s with bu := updF s.bu j true, ba := updF s.ba j false } W ∧ (SM P).Code m ⟨j, .popR, l⟩ v W) ∧ Fr P.L P.ws w W := fun W v tu hc =>
            ⟨⟨hM.made tu hi4, hc⟩, (f2.trans f4).trans ((hM.okw _ _ _ hi4).fr hM tu)⟩
          clear ih y0 y1 y2 hB4 hB2 mv4 hi hi2 hi4 f4 f2
          unfold Gm.Makes at hp
          go_wp2_with fail
          refine hp.mono ?_
          rintro e w5 ⟨v, rfl, hc5, t5⟩
          go_wp2
          go_ret
          exact ⟨v, rfl, fin _ _ t5 hc5⟩
      | false =>
        by_cases hne : s.hs j = []
        · have hst : startS j (false :: l) s = startS j l s := by
            show (match (s.hs j).getLast? with | none => startS j l s | some i => (⟨j, .pushR i, l⟩, s)) = _
            rw [hne]
            rfl
          obtain ⟨A0, cv, rfl, _⟩ := own_slice hown
          have h0 : (s.hs j).length = 0 := by rw [hne]; rfl
          rw [h0] at hwk
          have q0 : W2.cell? ⟨P.wb j, 0, none⟩ = some (.slice A0 0 cv) := hwk.cell 0
          have hsl := slice_tail1 (t := 22) (e := 4) Try.underlying22 (by kernel_rfl) (some a) (l.length + 1) cp (by omega)
          rw [Nat.add_sub_cancel] at hsl
          have e2 := d0
          have tu3 : Turns [] W2 W2.drew := (Turns.refl [] _).drew
          have okw3 := hM.okw _ _ _ hi2
          have hI4 := SI.tasks (Mv.of_turns tu3 (by simp) (fun x hx => by cases hx)) hi2
          have ht := ihl j (tailO (some a) cp) (cp - 1) _ r s hj ((hB2.tail (cp := cp) hcp).mv (okw3.mv hM tu3)) (by omega) hI4
          have hF4 := f2.trans (okw3.fr hM tu3)
          have oo := (fun (b : Nat) (t : TypeId) (cs : Array Value) (y : (SM P).Bx W2 b t cs) (W : World) (f : Fr P.L P.ws W2.drew W) => (f.lies (y.l.drew) y.out y.row))
          rw [hst]
          have hbl := hB2.most
          simp only [List.length_cons] at hbl
          generalize startS j l s = R at *
          clear ihl ih hst hi hi2 hB2 hB hI4 hwk hown hne h0 f2 okw3
          unfold Gm.Then at *
          show Calls _ _ #[stV P, .slice (some a) (l.length + 1) cp, ptr (P.wb j)] _ _
          go_enter Try.func15, Try.ntmps15
          go_upto_region 7 with (fail)
          clear hW2 hbs
          go_region_held3 (fun W' => W'.cell? ⟨bs, 0, none⟩ = some (ptr P.p) ∧ W'.cell? ⟨bs, 1, none⟩ = some (.int .i64 0) ∧ W'.cell? ⟨bs, 2, none⟩ = some (.func (.func 38) #[] #[]) ∧ W'.cell? ⟨bs + 1, 0, none⟩ = some (.slice (some a) (l.length + 1) cp) ∧ W'.cell? ⟨bs + 1 + 1, 0, none⟩ = some (ptr (P.wb j)))
            (first | exact ⟨c0, c1, c2, e2, e0⟩ | exact ⟨u0, u1, u2, u3, u4⟩)
            (first
              | (go_at_call 15
                 refine ht.mono ?_
                 rintro e w5 ⟨v, rfl, hq5, t5⟩
                 have o1 := oo _ _ _ y1 _ t5
                 have u0 : w5.cell? ⟨bs, 0, none⟩ = some (ptr P.p) := o1.cell 0
                 have u1 : w5.cell? ⟨bs, 1, none⟩ = some (.int .i64 0) := o1.cell 1
                 have u2 : w5.cell? ⟨bs, 2, none⟩ = some (.func (.func 38) #[] #[]) := o1.cell 2
                 have u3 : w5.cell? ⟨bs + 1, 0, none⟩ = some (.slice (some a) (l.length + 1) cp) := (oo _ _ _ y2 _ t5).cell 0
                 have u4 : w5.cell? ⟨bs + 1 + 1, 0, none⟩ = some (ptr (P.wb j)) := (oo _ _ _ y0 _ t5).cell 0))
          go_wp2
          go_ret
          exact ⟨v, rfl, hq5, hF4.trans t5⟩
        · obtain ⟨q, hq⟩ : ∃ q, (s.hs j).length = q + 1 := ⟨(s.hs j).length - 1, by have := List.length_pos_iff.2 hne; omega⟩
          obtain ⟨x, hx⟩ : ∃ x, (s.hs j)[q]? = some x := ⟨_, List.getElem?_eq_getElem (by omega)⟩
          have hlast : (s.hs j).getLast? = some x := by rw [List.getLast?_eq_getElem?, hq]; exact hx
          have hxb := hi2.hb j hj x (List.mem_of_getElem? hx)
          have hst : startS j (false :: l) s = (⟨j, .pushR x, l⟩, s) := by
            show (match (s.hs j).getLast? with | none => startS j l s | some i => (⟨j, .pushR i, l⟩, s)) = _
            rw [hlast]
          obtain ⟨g, c, rfl, hBg, hglt⟩ := hown.form (by omega)
          rw [hq] at hwk
          have q0 : W2.cell? ⟨P.wb j, 0, none⟩ = some (.slice (some ⟨g, 0, none⟩) (q + 1) c) := hwk.cell 0
          have q1 : W2.cell? ⟨g, q, none⟩ = some (.int .i64 x) := by
            rcases hown.2 with ⟨h0, _⟩ | ⟨g', cap, cur, hv, _, hg, hnc, hcs⟩
            · cases h0
            · injection hv with hv _ _
              injection hv with hv
              injection hv with hv _ _
              subst hv
              rw [cell_of_row W2 g q cur 3 (0, 0) hg]
              have h1 : (intVs (s.hs j))[q]? = some (.int .i64 x) := by unfold intVs; rw [List.getElem?_map, hx]; rfl
              rw [← hcs.2.2, List.getElem?_take, if_pos (by omega)] at h1
              simpa using h1
          have hmx : q < 100000 := by have := (hi2.size j hj).1; omega
          have hwq : IntKind.i64.wrap (q : Int) = q := by rw [IntKind.wrap_i64]; omega
          have hwq1 : IntKind.i64.wrap ((q : Int) + 1 - 1) = q := by rw [IntKind.wrap_i64]; omega
          have hq0 : ¬ ((q : Int) + 1 = 0) := by omega
          have few := hG.few
          have tu3 : Turns [] W2 W2.drew := (Turns.refl [] _).drew
          have okw3 := hM.okw _ _ _ hi2
          have hi4 := SI.tasks (Mv.of_turns tu3 (by simp) (fun x hx => by cases hx)) hi2
          have mv4 := okw3.mv hM tu3
          have z0 := y0.mv mv4
          have z1 := y1.mv mv4
          have z2 := y2.mv mv4
          have hp := push_g (smAr P hG) hM (sm_ch P hG) (i := x) ⟨hxb.1, hxb.2⟩ (sm_push P hG j x l) m 42 #[ptr (bs + 1 + 1), ptr bs, ptr (bs + 1)] W2.drew ent_code2 (hM.okw _ _ _ hi4) (sm_lk P _) ((sm_ch P hG).begin ⟨hxb.1, hxb.2⟩ hi4) (code2_g hG hj z0 z1 z2 (hB2.mv mv4) hcp (fun n hn => ih n hn l))
          have fin : ∀ W v, Turns [] W2.drew W → (SM P).Code m ⟨j, .pushR x, l⟩ v W → (SI P r s W ∧ (SM P).Code m ⟨j, .pushR x, l⟩ v W) ∧ Fr P.L P.ws w W := fun W v tu hc =>
            ⟨⟨hM.made tu hi4, hc⟩, (f2.trans (okw3.fr hM tu3)).trans ((hM.okw _ _ _ hi4).fr hM tu)⟩
          rw [hst]
          have hbl := hB2.most
          simp only [List.length_cons] at hbl
          clear ihl ih hst hi hi2 hB2 hB hi4 hwk hown hne f2 okw3 z0 z1 z2 y0 y1 y2 mv4 hlast hx hq
          unfold Gm.Then Gm.Makes at *
          show Calls _ _ #[stV P, .slice (some a) (l.length + 1) cp, ptr (P.wb j)] _ _
          go_enter Try.func15, Try.ntmps15
          go_upto_region 8 with (fail)
          clear hW2 hbs
          go_region
          go_wp2_with fail
          refine hp.mono ?_
          rintro e w5 ⟨v, rfl, hc5, t5⟩
          go_wp2
          go_ret
          exact ⟨v, rfl, fin _ _ t5 hc5⟩
end

end Go.Proofs.Ythjbmaeoogophaa

/- Code that is made where not all is there yet: it does what each machine says whose other blocks come later. -/
namespace Go.Proofs.Ythjbmaeoogophaa
open Go.RowKit
set_option maxRecDepth 100000

section
variable {St Pr ι : Type} (M : ι → Gm St Pr) (E : ι → Nat → Prop)
/-- machines, as a world has them: what they have besides lies from n on. -/
structure Fam (w : World) : Prop where
  lt : ∀ i n b, E i n → b ∈ (M i).L ++ (M i).X → b < w.heap.size ∨ n ≤ b
  row : ∀ i n b, E i n → w.heap.size ≤ n → Rw (M i).ws w b → b < w.heap.size
  cells : ∀ i x, x ∈ (M i).ws → x.block ∈ (M i).L
  low : ∀ i n n', E i n → n' ≤ n → E i n'
def MakesF (m : Nat) (q : Pr) (f : FuncId) (args : Array Value) (w : World) : Prop :=
  Calls Try.prog f args w fun e w' => ∃ v, e = .returned v ∧ (∀ i, E i w'.heap.size → (M i).Code m q v w') ∧ Turns [] w w'
variable {M E} {w w' : World} {i : ι} {n : Nat}
theorem Fam.rw (h : Fam M E w) (k : Turns [] w w') (hi : E i n) (hn : w'.heap.size ≤ n) {b : Nat} (q : Rw (M i).ws w' b) : Rw (M i).ws w b := by
  obtain ⟨a, ha, o, m, c, e⟩ := q
  refine ⟨a, ha, o, m, c, ?_⟩
  rcases h.lt i n a.block hi (List.mem_append.2 (.inl (h.cells i a ha))) with h1 | h1
  · exact (k.cell h1 (by simp)).symm.trans e
  · have := cell_block e
    omega
theorem Fam.made (h : Fam M E w) (k : Turns [] w w') : Fam M E w' :=
  ⟨fun i n b hi hb => (h.lt i n b hi hb).imp (fun x => Nat.lt_of_lt_of_le x k.size) id, fun i n b hi hn q => Nat.lt_of_lt_of_le (h.row i n b hi (Nat.le_trans k.size hn) (h.rw k hi hn q)) k.size, h.cells, h.low⟩
theorem Fam.mv (h : Fam M E w) (k : Turns [] w w') (hi : E i n) (hn : w'.heap.size ≤ n) : Mv (M i).B ((M i).L ++ (M i).X) (M i).ws w w' :=
  ⟨k.os, k.tape, k.output, k.size, fun b hb _ _ => .inl (k.block b hb (by simp)), fun b _ q => h.rw k hi hn q⟩
theorem Fam.box (h : Fam M E w) (k : Turns [] w w') (hi : E i n) (hn : w'.heap.size ≤ n) {b : Nat} {t : TypeId} {cs : Array Value} (hb : w.heap.size ≤ b) (l : Lies w' b t cs) (ht : t ∉ loose) : (M i).Bx w' b t cs := by
  have hlt := l.lt
  refine ⟨l, fun hm => ?_, fun q => ?_, ht, fun hm => ?_⟩
  · rcases h.lt i n b hi (List.mem_append.2 (.inl hm)) with h1 | h1 <;> omega
  · have := h.row i n b hi (Nat.le_trans k.size hn) (h.rw k hi hn q)
    omega
  · rcases h.lt i n b hi (List.mem_append.2 (.inr hm)) with h1 | h1 <;> omega

variable {p c m f : Nat} {h : Int} {lf : FuncId} {lcap cap : Array Value} {lk : Int → Int} {q : ι → Pr}
end

section
variable {St Pr ι : Type} {M : ι → Gm St Pr} {E : ι → Nat → Prop} {w : World} {p c m f : Nat} {h : Int} {lf : FuncId} {lcap cap : Array Value} {lk : Int → Int} {qR : Pr}
theorem load_f {j : Int} (A : ∀ i, (M i).Ar p c) (hM : ∀ i, (M i).Ok) {V : ι → Int → St → Prop} (hV : ∀ i s, (A i).ok ((A i).l s) → (M i).W qR s → V i (getA ((A i).l s) j) ((A i).put s ((A i).l s) (moreA ((A i).l s) j ((A i).k s)))) {T : ι → Int → St → Pr × St} (hE : Ent f) (hw : Fam M E w) (hq : ∀ i, (M i).ended qR = false) (hT : ∀ i, E i w.heap.size → (M i).Cont m f cap w (fun x s => N64 x ∧ V i x s) (fun x => #[.int .u64 x]) (T i))
    (hs : ∀ i s, (M i).step qR s = T i (getA ((A i).l s) j) ((A i).put s ((A i).l s) (moreA ((A i).l s) j ((A i).k s)))) :
    MakesF M E m qR 48 #[ptr p, .int .i64 j, .func (.func f) #[] cap] w := by
  unfold MakesF
  refine (mkload_any _ _ _ _ w).mono ?_
  rintro e w' ⟨rfl, rfl⟩
  have k : Turns [] w (((w.alloc (.cells #[ptr p] 24)).alloc (.cells #[.int .i64 j] 3)).alloc (.cells #[.func (.func f) #[] cap] 105)) := (((Turns.refl _ _).alloc _).alloc _).alloc _
  exact ⟨_, rfl, fun i hi => load1_g (A i) (hM i) (hV i) hE (hw.box k hi (Nat.le_refl _) (by omega) (Lies.new_of _ _ (by simp)) (by decide)) (hw.box k hi (Nat.le_refl _) (by omega) (((Lies.new _ _ _).alloc _).alloc _) (by decide)) (hw.box k hi (Nat.le_refl _) (by omega) ((Lies.new_of _ _ (by simp)).alloc _) (by decide)) (hq i) ((hT i (hw.low _ _ _ hi k.size)).mv (hw.mv k hi (Nat.le_refl _))) (hs i), k⟩

theorem read_f (A : ∀ i, (M i).Ar p c) (hM : ∀ i, (M i).Ok) {V : ι → Int → St → Prop} (hV : ∀ i s, (A i).ok ((A i).l s) → (M i).W qR s → V i (getA ((A i).l s) h) ((A i).put s ((A i).l s) (moreA ((A i).l s) h ((A i).k s)))) {T : ι → Int → St → Pr × St} (hE : Ent f) (hw : Fam M E w) (hq : ∀ i, (M i).ended qR = false) (hT : ∀ i, E i w.heap.size → (M i).Cont m f cap w (fun x s => N64 x ∧ V i x s) (fun x => #[.int .u64 x, .int .i64 (hIx x)]) (T i))
    (hs : ∀ i s, (M i).step qR s = T i (getA ((A i).l s) h) ((A i).put s ((A i).l s) (moreA ((A i).l s) h ((A i).k s)))) :
    MakesF M E m qR 62 #[chV p h lf lcap, .func (.func f) #[] cap] w := by
  have hmf := hmf_run
  have k2 : Turns [] w ((w.alloc (.cells (chC p h lf lcap) 93)).alloc (.cells #[.func (.func f) #[] cap] 117)) := ((Turns.refl _ _).alloc _).alloc _
  have l0 : Lies ((w.alloc (.cells (chC p h lf lcap) 93)).alloc (.cells #[.func (.func f) #[] cap] 117)) w.heap.size 93 (chC p h lf lcap) := (Lies.new _ _ _).alloc _
  have l1 : Lies ((w.alloc (.cells (chC p h lf lcap) 93)).alloc (.cells #[.func (.func f) #[] cap] 117)) (w.heap.size + 1) 117 #[.func (.func f) #[] cap] := Lies.new_of _ _ (by simp)
  obtain ⟨c0, c1, _⟩ := ch_cells l0
  have hl := load_f (j := h) (f := 92) (cap := #[ptr (w.heap.size + 1)]) (m := m) A hM hV ent_read1 (hw.made k2) hq (fun i hi => read1_g (hM i) hE (hw.box k2 hi (Nat.le_refl _) (by omega) l1 (by decide)) ((hT i (hw.low _ _ _ hi k2.size)).mv (hw.mv k2 hi (Nat.le_refl _)))) hs
  clear hT hs l0 l1
  unfold MakesF at *
  go_enter Try.func62, Try.ntmps62
  go_upto_region 1 with (fail)
  generalize ((w.alloc (.cells (chC p h lf lcap) 93)).alloc (.cells #[.func (.func f) #[] cap] 117)) = w2 at *
  go_wp2_with fail
  refine hl.mono ?_
  rintro e w3 ⟨v, rfl, hc, t3⟩
  go_wp2
  go_ret
  exact ⟨v, rfl, hc, k2.trans t3⟩

variable {qN : Int → Pr} {qT : Int → Int → Pr} {T : ι → Int → Bool → St → Pr × St} {V U Y : ι → Int → Prop} {D : ι → Int → Bool → St → Prop}
theorem pop_f (A : ∀ i, (M i).Ar p c) (hM : ∀ i, (M i).Ok) (hC : ∀ i, Gm.ChOk (A i) h lk (V i) (U i) (Y i)) (hQ : ∀ i, Gm.PopQ (A i) h lk qR qN qT (D i) (T i)) (hE : Ent f) (hw : Fam M E w) (hL : ∀ i, (M i).Lk w lf lcap lk) (hT : ∀ i, E i w.heap.size → (M i).Cont m f cap w (fun x s => PopD (V i) x ∧ D i x.1 x.2 s) (fun x => #[.int .i64 x.1, .bool x.2]) (fun x => T i x.1 x.2)) :
    MakesF M E m qR 39 #[chV p h lf lcap, .func (.func f) #[] cap] w := by
  have hmf := hmf_run
  have y2 := fun (a : Addr) (f : FuncId) (c : Array Value) (w : World) => run_store Try.prog w a (.func (.func f) #[] c) .plain rfl
  obtain ⟨W2, hW2⟩ : ∃ W2, (((w.alloc (.cells (chC p h lf lcap) 27)).alloc (.cells #[.func (.func f) #[] cap] 91)).alloc (.cells (chC p h lf lcap) 93)) = W2 := ⟨_, rfl⟩
  have k2 : Turns [] w W2 := by rw [← hW2]; exact (((Turns.refl _ _).alloc _).alloc _).alloc _
  have l0 : Lies W2 w.heap.size 27 (chC p h lf lcap) := by rw [← hW2]; exact ((Lies.new _ _ _).alloc _).alloc _
  have l1 : Lies W2 (w.heap.size + 1) 91 #[.func (.func f) #[] cap] := by rw [← hW2]; exact (Lies.new_of _ _ (by simp)).alloc _
  have l2 : Lies W2 (w.heap.size + 1 + 1) 93 (chC p h lf lcap) := by rw [← hW2]; exact Lies.new_of _ _ (by simp)
  have hR := read_f (m := m) (h := h) (lf := lf) (lcap := lcap) (E := E) A hM (V := fun i x s => V i x ∧ (hIx x = -1 → D i (-1) false s)) (fun i s hok hw => ⟨(hC i).hd _ hok, (hQ i).wR s hok hw⟩) ent_pop1 (hw.made k2) (fun i => (hQ i).eR) (fun i hi => pop1_g (A i) (hM i) (hC i) (hQ i) hE ((hL i).mv (hw.mv k2 hi (Nat.le_refl _))) (hw.box k2 hi (Nat.le_refl _) (by omega) l1 (by decide)) (hw.box k2 hi (Nat.le_refl _) (by omega) l2 (by decide)) (hw.box k2 hi (Nat.le_refl _) (by omega) l0 (by decide)) ((hT i (hw.low _ _ _ hi k2.size)).mv (hw.mv k2 hi (Nat.le_refl _)))
    (fun n hn w' h1 h2 => pop_g (A i) (hM i) (hC i) (hQ i) n f cap w' hE h2 (((hL i).mv (hw.mv k2 hi (Nat.le_refl _))).mv h1) ((((hT i (hw.low _ _ _ hi k2.size)).mv (hw.mv k2 hi (Nat.le_refl _))).mv h1).less (by omega)))) (fun i s => by rw [(hQ i).sR])
  obtain ⟨c0, c1, c2⟩ := ch_cells l2
  clear hT hL l0 l1 l2 hw hE
  unfold MakesF at *
  go_enter Try.func39, Try.ntmps39
  go_wp2_with fail
  clear hW2
  refine hR.mono ?_
  rintro e w4 ⟨v, rfl, hc4, t4⟩
  go_wp2
  go_ret
  exact ⟨v, rfl, hc4, k2.trans t4⟩

variable {i : Int} {qS qU : Int → Pr} {T2 : ι → St → Pr × St} {D2 : ι → St → Prop} {M0 : Gm St Pr}
theorem push_f (A : ∀ i, (M i).Ar p c) (hM : ∀ i, (M i).Ok) (hC : ∀ i, Gm.ChOk (A i) h lk (V i) (U i) (Y i)) (hY : ∀ j, Y j i) (hix : Ix i) (hQ : ∀ j, Gm.PushQ (A j) h lk i qR qS qU (D2 j) (T2 j)) (hE : Ent f) (hw : Fam M E w) (hL : ∀ i, (M i).Lk w lf lcap lk) (hM0 : M0.Ok) (hw0 : M0.OkW w) (hL0 : M0.Lk w lf lcap lk) (hRm : Room w p c h (lk i)) (hT : ∀ j, E j w.heap.size → (M j).Cont m f cap w (fun (_ : Unit) s => D2 j s) (fun _ => #[]) (fun _ => T2 j)) :
    MakesF M E m qR 41 #[chV p h lf lcap, .int .i64 i, .func (.func f) #[] cap] w := by
  have hmf := hmf_run
  have y2 := fun (a : Addr) (f : FuncId) (c : Array Value) (w : World) => run_store Try.prog w a (.func (.func f) #[] c) .plain rfl
  obtain ⟨W2, hW2⟩ : ∃ W2, ((((w.alloc (.cells (chC p h lf lcap) 27)).alloc (.cells #[.int .i64 i] 3)).alloc (.cells #[.func (.func f) #[] cap] 37)).alloc (.cells (chC p h lf lcap) 93)) = W2 := ⟨_, rfl⟩
  have k2 : Turns [] w W2 := by rw [← hW2]; exact ((((Turns.refl _ _).alloc _).alloc _).alloc _).alloc _
  have l0 : Lies W2 w.heap.size 27 (chC p h lf lcap) := by rw [← hW2]; exact (((Lies.new _ _ _).alloc _).alloc _).alloc _
  have l1 : Lies W2 (w.heap.size + 1) 3 #[.int .i64 i] := by rw [← hW2]; exact ((Lies.new_of _ _ (by simp)).alloc _).alloc _
  have l2 : Lies W2 (w.heap.size + 1 + 1) 37 #[.func (.func f) #[] cap] := by rw [← hW2]; exact (Lies.new_of _ _ (by simp)).alloc _
  have l3 : Lies W2 (w.heap.size + 1 + 1 + 1) 93 (chC p h lf lcap) := by rw [← hW2]; exact Lies.new_of _ _ (by simp)
  have hR : ∀ W, Turns [] W2 W → MakesF M E m qR 62 #[chV p h lf lcap, .func (.func 67) #[] #[ptr (w.heap.size + 1 + 1 + 1), ptr (w.heap.size + 1), ptr w.heap.size, ptr (w.heap.size + 1 + 1)]] W := fun W hW => by
    have kk := k2.trans hW
    have x0 := fun j (hj : E j W.heap.size) => hw.box kk hj (Nat.le_refl _) (by omega) (l0.turn hW (by simp)) (by decide)
    have x1 := fun j (hj : E j W.heap.size) => hw.box kk hj (Nat.le_refl _) (by omega) (l1.turn hW (by simp)) (by decide)
    have x2 := fun j (hj : E j W.heap.size) => hw.box kk hj (Nat.le_refl _) (by omega) (l2.turn hW (by simp)) (by decide)
    have x3 := fun j (hj : E j W.heap.size) => hw.box kk hj (Nat.le_refl _) (by omega) (l3.turn hW (by simp)) (by decide)
    exact read_f (V := fun j x _ => V j x) A hM (fun j s hok _ => (hC j).hd _ hok) ent_push1 (hw.made kk) (fun j => (hQ j).eR) (fun j hj => push1_g (A j) (hM j) (hC j) (hY j) (hQ j) hE ((hL j).mv (hw.mv kk hj (Nat.le_refl _))) (x3 j hj) (x1 j hj) (x0 j hj) (x2 j hj) ((hT j (hw.low _ _ _ hj kk.size)).mv (hw.mv kk hj (Nat.le_refl _)))
      (fun n hn w' h1 h2 h4 => push_g (A j) (hM j) (hC j) (hY j) (hQ j) n f cap w' hE h2 (((hL j).mv (hw.mv kk hj (Nat.le_refl _))).mv h1) h4 ((((hT j (hw.low _ _ _ hj kk.size)).mv (hw.mv kk hj (Nat.le_refl _))).mv h1).less (by omega)))) (fun j => (hQ j).sR)
  obtain ⟨l, k, ha, g1, g2⟩ := hRm
  have hw2 := hw0.made hM0 k2
  have cH := canhave_g hM0 hw2 (hL0.mv (hw0.mv hM0 k2)) (ha.turn k2 (by simp) (by simp)) hix g1 g2
  have d0 : W2.cell? ⟨w.heap.size + 1, 0, none⟩ = some (.int .i64 i) := l1.cell 0
  have gl1 := l1.lt
  have gl3 := l3.lt
  obtain ⟨c0, c1, c2⟩ := ch_cells l3
  clear hT hL l0 l1 l2 l3 hw hE hw2 ha hw0 hL0
  unfold MakesF at *
  go_enter Try.func41, Try.ntmps41
  go_wp2_with fail
  clear hW2
  refine cH.mono ?_
  rintro e w3 ⟨rfl, t3⟩
  have d1 := (t3.cell (p := ⟨w.heap.size + 1, 0, none⟩) gl1 (by simp)).trans d0
  have u0 := (t3.cell (p := ⟨w.heap.size + 1 + 1 + 1, 0, none⟩) gl3 (by simp)).trans c0
  have u1 := (t3.cell (p := ⟨w.heap.size + 1 + 1 + 1, 1, none⟩) gl3 (by simp)).trans c1
  have u2 := (t3.cell (p := ⟨w.heap.size + 1 + 1 + 1, 2, none⟩) gl3 (by simp)).trans c2
  have hR := hR _ t3
  go_wp2_with fail
  refine hR.mono ?_
  rintro e w4 ⟨v, rfl, hc4, t4⟩
  go_wp2
  go_ret
  exact ⟨v, rfl, hc4, (k2.trans t3).trans t4⟩
end

end Go.Proofs.Ythjbmaeoogophaa

/- Layer 8's code of acts, made where later workers aren't there yet. -/
namespace Go.Proofs.Ythjbmaeoogophaa
open Go.RowKit
set_option maxRecDepth 100000

/-- with more workers. -/
structure More where
  nw : Nat
  wb : Nat → Nat
  gp : Nat → Option Nat
  ex : List Nat
def SP.up (P : SP) (x : More) : SP := { P with nw := P.nw + x.nw, wb := fun i => if i < P.nw then P.wb i else x.wb (i - P.nw), gp := fun i => if i < P.nw then P.gp i else x.gp (i - P.nw), ex := P.ex ++ x.ex }
/-- they lie from n on. -/
def More.From (x : More) (n : Nat) : Prop := (∀ i, i < x.nw → n ≤ x.wb i ∧ ∀ g, x.gp i = some g → n ≤ g) ∧ ∀ b, b ∈ x.ex → n ≤ b
abbrev Ups (P : SP) := { x : More // (P.up x).Good }
section
variable {P : SP} {x : More} {n : Nat}
theorem SP.up_wb {j : Nat} (hj : j < P.nw) : (P.up x).wb j = P.wb j := if_pos hj
theorem SP.up_gp {j : Nat} (hj : j < P.nw) : (P.up x).gp j = P.gp j := if_pos hj
theorem SP.up_has {j : Nat} (hj : j < P.nw) : (P.up x).has j = P.has j := by unfold SP.has; rw [SP.up_gp hj]
theorem SP.up_nw {j : Nat} (hj : j < P.nw) : j < (P.up x).nw := Nat.lt_of_lt_of_le hj (Nat.le_add_right _ _)
theorem SP.up_L {b : Nat} (h : b ∈ (P.up x).L) (hx : x.From n) : b ∈ P.L ∨ n ≤ b := by
  rcases SP.L_mem.1 h with h | h | ⟨j, hj, h⟩ | ⟨j, hj, h⟩
  · exact .inl (SP.L_mem.2 (.inl h))
  · exact .inl (SP.L_mem.2 (.inr (.inl h)))
  · by_cases hl : j < P.nw
    · rw [SP.up_wb hl] at h
      exact .inl (SP.L_mem.2 (.inr (.inr (.inl ⟨j, hl, h⟩))))
    · have e : (P.up x).wb j = x.wb (j - P.nw) := if_neg hl
      have hj : j < P.nw + x.nw := hj
      rw [e] at h
      have := (hx.1 (j - P.nw) (by omega)).1
      right; omega
  · by_cases hl : j < P.nw
    · rw [SP.up_gp hl] at h
      exact .inl (SP.L_mem.2 (.inr (.inr (.inr ⟨j, hl, h⟩))))
    · have e : (P.up x).gp j = x.gp (j - P.nw) := if_neg hl
      have hj : j < P.nw + x.nw := hj
      rw [e] at h
      exact .inr ((hx.1 (j - P.nw) (by omega)).2 _ h)
theorem SP.up_ws {a : Addr} (h : a ∈ (P.up x).ws) (hx : x.From n) : a ∈ P.ws ∨ n ≤ a.block := by
  rcases SP.ws_mem.1 h with ⟨j, hj, rfl⟩ | ⟨j, g, hj, hg, rfl⟩
  · by_cases hl : j < P.nw
    · rw [SP.up_wb hl]
      exact .inl (SP.ws_mem.2 (.inl ⟨j, hl, rfl⟩))
    · have e : (P.up x).wb j = x.wb (j - P.nw) := if_neg hl
      have hj : j < P.nw + x.nw := hj
      rw [e]
      exact .inr (hx.1 (j - P.nw) (by omega)).1
  · by_cases hl : j < P.nw
    · rw [SP.up_gp hl] at hg
      exact .inl (SP.ws_mem.2 (.inr ⟨j, g, hl, hg, rfl⟩))
    · have e : (P.up x).gp j = x.gp (j - P.nw) := if_neg hl
      have hj : j < P.nw + x.nw := hj
      rw [e] at hg
      exact .inr ((hx.1 (j - P.nw) (by omega)).2 _ hg)
theorem SP.up_rw {w : World} {b : Nat} (hx : x.From n) (hn : w.heap.size ≤ n) (q : Rw (P.up x).ws w b) : Rw P.ws w b := by
  obtain ⟨a, ha, o, m, c, e⟩ := q
  rcases SP.up_ws ha hx with h | h
  · exact ⟨a, h, o, m, c, e⟩
  · have := cell_block e
    omega
theorem Ups.fam {w : World} (hw : (SM P).OkW w) : Fam (fun y : Ups P => SM (P.up y.1)) (fun y n => y.1.From n) w where
  lt y n b hy hb := by
    rcases List.mem_append.1 hb with h | h
    · exact (SP.up_L h hy).imp (hw.lt b) id
    · rcases List.mem_append.1 (show b ∈ P.ex ++ y.1.ex from h) with h | h
      · exact .inl (hw.ltX b h)
      · exact .inr (hy.2 b h)
  row y n b hy hn q := (hw.row b (SP.up_rw hy hn q)).2
  cells y a ha := (sm_ok _ y.2).cells a ha
  low y n n' h hn := ⟨fun i hi => ⟨Nat.le_trans hn (h.1 i hi).1, fun g hg => Nat.le_trans hn ((h.1 i hi).2 g hg)⟩, fun b hb => Nat.le_trans hn (h.2 b hb)⟩
theorem Gm.Bx.up {w : World} {b : Nat} {t : TypeId} {cs : Array Value} (h : (SM P).Bx w b t cs) (hx : x.From n) (hn : w.heap.size ≤ n) : (SM (P.up x)).Bx w b t cs := by
  have hlt := h.l.lt
  exact ⟨h.l, fun hm => by
    rcases SP.up_L hm hx with h1 | h1
    · exact h.out h1
    · omega, fun q => h.row (SP.up_rw hx hn q), h.ty, fun hm => by
    rcases List.mem_append.1 (show b ∈ P.ex ++ x.ex from hm) with h1 | h1
    · exact h.outX h1
    · have := hx.2 b h1; omega⟩
theorem BL.up {w : World} {A : Option Addr} {bs : List Bool} (h : BL P w A bs) (hx : x.From n) (hn : w.heap.size ≤ n) : BL (P.up x) w A bs :=
  ⟨h.most, fun hp => by
    obtain ⟨a, e, h1, h2, h3, h4, h5⟩ := h.at_ hp
    refine ⟨a, e, h1, fun hm => ?_, fun q => h3 (SP.up_rw hx hn q), h4, h5⟩
    rcases List.mem_append.1 hm with hm | hm
    · rcases SP.up_L hm hx with h6 | h6
      · exact h2 (List.mem_append.2 (.inl h6))
      · omega
    · rcases List.mem_append.1 (show a.block ∈ P.ex ++ x.ex from hm) with h6 | h6
      · exact h2 (List.mem_append.2 (.inr h6))
      · have := hx.2 _ h6; omega⟩
end

/-- code() of so many acts tells code that does them, whoever comes later. -/
def CodeW (P : SP) (n : Nat) (l : List Bool) : Prop := ∀ (j : Nat) (A : Option Addr) (cp : Nat) (w : World) (r : Nat) (s : SSt), j < P.nw → BL P w A l → l.length ≤ cp → SI P r s w →
  (SM P).Then 15 #[stV P, .slice A l.length cp, ptr (P.wb j)] w fun v w' => SI P r (startS j l s).2 w' ∧ ∀ x : More, (P.up x).Good → x.From w'.heap.size → (SM (P.up x)).Code n (startS j l s).1 v w'

section
variable {P : SP}
set_option maxHeartbeats 1000000 in
theorem code_w (hG : P.Good) (m : Nat) : ∀ (l : List Bool), CodeW P m l := by
    intro l
    induction l with
    | nil =>
      intro j A cp w r s hj hB hcp hi
      have hM := sm_ok P hG
      have hw := hM.okw _ _ _ hi
      obtain ⟨W2, hW2⟩ : ∃ W2, (((w.alloc (.cells (stC P) 27)).alloc (.cells #[.slice A 0 cp] 22)).alloc (.cells #[ptr (P.wb j)] 30)) = W2 := ⟨_, rfl⟩
      have k2 : Turns [] w W2 := by rw [← hW2]; exact (((Turns.refl _ _).alloc _).alloc _).alloc _
      have l1 : Lies W2 (w.heap.size + 1) 22 #[.slice A 0 cp] := by rw [← hW2]; exact (Lies.new_of _ _ (by simp)).alloc _
      have d0 : W2.cell? ⟨w.heap.size + 1, 0, none⟩ = some (.slice A 0 cp) := l1.cell 0
      have hi2 := SI.tasks (Mv.of_turns k2 (by simp) (fun x hx => by cases hx)) hi
      have f2 := hw.fr hM k2
      show (SM P).Then _ #[stV P, .slice A 0 cp, ptr (P.wb j)] w (fun v w' => SI P r s w' ∧ ∀ x : More, (P.up x).Good → x.From w'.heap.size → (SM (P.up x)).Code m ⟨j, .done, []⟩ v w')
      unfold Gm.Then
      go_enter Try.func15, Try.ntmps15
      go_wp2_with fail
      go_ret
      exact ⟨_, rfl, ⟨hi2, fun x _ _ => by cases m <;> exact .inl ⟨rfl, rfl⟩⟩, f2⟩
    | cons b l ihl =>
      intro j A cp w r s hj hB hcp hi
      have hM := sm_ok P hG
      have hw := hM.okw _ _ _ hi
      have hcp : l.length + 1 ≤ cp := hcp
      obtain ⟨W2, hW2⟩ : ∃ W2, (((w.alloc (.cells (stC P) 27)).alloc (.cells #[.slice A (l.length + 1) cp] 22)).alloc (.cells #[ptr (P.wb j)] 30)) = W2 := ⟨_, rfl⟩
      have k2 : Turns [] w W2 := by rw [← hW2]; exact (((Turns.refl _ _).alloc _).alloc _).alloc _
      have l0 : Lies W2 w.heap.size 27 (stC P) := by rw [← hW2]; exact ((Lies.new _ _ _).alloc _).alloc _
      have l1 : Lies W2 (w.heap.size + 1) 22 #[.slice A (l.length + 1) cp] := by rw [← hW2]; exact (Lies.new_of _ _ (by simp)).alloc _
      have l2 : Lies W2 (w.heap.size + 1 + 1) 30 #[ptr (P.wb j)] := by rw [← hW2]; exact Lies.new_of _ _ (by simp)
      have y1 := hw.box hM k2 (by omega) l0 (by decide)
      have y2 := hw.box hM k2 (by omega) l1 (by decide)
      have y0 := hw.box hM k2 (by omega) l2 (by decide)
      have hi2 := SI.tasks (Mv.of_turns k2 (by simp) (fun x hx => by cases hx)) hi
      have f2 := hw.fr hM k2
      have hB2 := hB.mv f2.mv
      obtain ⟨a, ha, hc⟩ := hB2.head
      subst ha
      have d0 : W2.cell? ⟨w.heap.size + 1, 0, none⟩ = some (.slice (some a) (l.length + 1) cp) := l1.cell 0
      have e0 := y0.cell
      obtain ⟨c0, c1, c2⟩ : W2.cell? ⟨w.heap.size, 0, none⟩ = some (ptr P.p) ∧ W2.cell? ⟨w.heap.size, 1, none⟩ = some (.int .i64 0) ∧ W2.cell? ⟨w.heap.size, 2, none⟩ = some (.func (.func 38) #[] #[]) := ⟨l0.cell 0, l0.cell 1, l0.cell 2⟩
      have hl1 : ¬ ((l.length : Int) + 1 = 0) := by omega
      obtain ⟨v, hwk, hown⟩ := hi2.wk j hj
      generalize hbs : w.heap.size = bs at *
      cases b with
      | true =>
        have f23 : W2.frozen? ⟨P.wb j, 2, none⟩ = false := hwk.frozen 2
        have f33 : W2.frozen? ⟨P.wb j, 3, none⟩ = false := hwk.frozen 3
        have q2 : W2.cell? ⟨P.wb j, 2, none⟩ = some (.bool (s.bu j)) := hwk.cell 2
        have q3 : W2.cell? ⟨P.wb j, 3, none⟩ = some (.bool (s.ba j)) := hwk.cell 3
        show (SM P).Then _ #[stV P, .slice (some a) (l.length + 1) cp, ptr (P.wb j)] w (fun v w' => SI P r { s with bu := updF s.bu j true, ba := updF s.ba j false } w' ∧ ∀ x : More, (P.up x).Good → x.From w'.heap.size → (SM (P.up x)).Code m ⟨j, .popR, l⟩ v w')
        have hbl := hB2.most
        simp only [List.length_cons] at hbl
        clear ihl hwk hown l0 l1 l2
        unfold Gm.Then
        go_enter Try.func15, Try.ntmps15
        go_upto_region 4 with (fail)
        clear hW2
        go_cut [14] (fun _ wc => SI P r { s with bu := updF s.bu j true, ba := updF s.ba j false } wc ∧ Fr P.L P.ws W2 wc)
        case first =>
          have tud : Turns [] W2 W2.drew := (Turns.refl [] _).drew
          have hi1 := SI.tasks (Mv.of_turns tud (by simp) (fun x hx => by cases hx)) hi2
          have m2 := hi1.mark hG j hj 2 (.inl rfl) true
          have n2 := hi1.mark_fr hG j hj 2 (.inl rfl) true
          have m3 := hi1.mark hG j hj 3 (.inr (.inl rfl)) false
          have n3 := hi1.mark_fr hG j hj 3 (.inr (.inl rfl)) false
          have m23 := m2.mark hG j hj 3 (.inr (.inl rfl)) false
          have n23 := m2.mark_fr hG j hj 3 (.inr (.inl rfl)) false
          have m32 := m3.mark hG j hj 2 (.inl rfl) true
          have n32 := m3.mark_fr hG j hj 2 (.inl rfl) true
          have fd := (hM.okw _ _ _ hi2).fr hM tud
          clear y0 y1 y2 hi hi2 hB hB2 f2
          go_region
          all_goals
            go_wp2_with fail
            go_meet
            case rel => first | exact ⟨m23, (fd.trans n2).trans n23⟩ | exact ⟨m32, (fd.trans n3).trans n32⟩
        case rest =>
          obtain ⟨hi4, f4⟩ := hcut
          have mv4 : Mv P.B (P.L ++ P.ex) P.ws W2 wc := f4.mv
          have y0 := y0.mv mv4
          have y1 := y1.mv mv4
          have y2 := y2.mv mv4
          have hB4 := hB2.mv mv4
          have hp := pop_f (M := fun y : Ups P => SM (P.up y.1)) (E := fun y n => y.1.From n) (p := P.p) (c := P.c) (m := m) (f := 40) (cap := #[ptr (bs + 1 + 1), ptr bs, ptr (bs + 1)]) (w := wc) (fun y => smAr (P.up y.1) y.2) (fun y => sm_ok _ y.2) (fun y => sm_ch (P.up y.1) y.2) (fun y => sm_pop (P.up y.1) y.2 j l) ent_code1 (Ups.fam (hM.okw _ _ _ hi4)) (fun y => sm_lk (P.up y.1) wc) (fun y hy => code1_g y.2 (SP.up_nw hj) (by rw [SP.up_wb hj]; exact y0.up hy (Nat.le_refl _)) (y1.up hy (Nat.le_refl _)) (y2.up hy (Nat.le_refl _)) (hB4.up hy (Nat.le_refl _)) hcp (fun n _ => code_g y.2 n l))
          obtain ⟨c0, c1, c2⟩ : wc.cell? ⟨bs, 0, none⟩ = some (ptr P.p) ∧ wc.cell? ⟨bs, 1, none⟩ = some (.int .i64 0) ∧ wc.cell? ⟨bs, 2, none⟩ = some (.func (.func 38) #[] #[]) := ⟨y1.l.cell 0, y1.l.cell 1, y1.l.cell 2⟩
          have fin : ∀ W v, Turns [] wc W → (∀ y : Ups P, y.1.From W.heap.size → (SM (P.up y.1)).Code m ⟨j, .popR, l⟩ v W) → (SI P r { s with bu := updF s.bu j true, ba := updF s.ba j false } W ∧ ∀ x : More, (P.up x).Good → x.From W.heap.size → (SM (P.up x)).Code m ⟨j, .popR, l⟩ v W) ∧ Fr P.L P.ws w W := fun W v tu hc =>
            ⟨⟨hM.made tu hi4, fun x h1 h2 => hc ⟨x, h1⟩ h2⟩, (f2.trans f4).trans ((hM.okw _ _ _ hi4).fr hM tu)⟩
          clear y0 y1 y2 hB4 hB2 mv4 hi hi2 hi4 f4 f2
          unfold MakesF at hp
          go_wp2_with fail
          refine hp.mono ?_
          rintro e w5 ⟨v, rfl, hc5, t5⟩
          go_wp2
          go_ret
          exact ⟨v, rfl, fin _ _ t5 hc5⟩
      | false =>
        by_cases hne : s.hs j = []
        · have hst : startS j (false :: l) s = startS j l s := by
            show (match (s.hs j).getLast? with | none => startS j l s | some i => (⟨j, .pushR i, l⟩, s)) = _
            rw [hne]
            rfl
          obtain ⟨A0, cv, rfl, _⟩ := own_slice hown
          have h0 : (s.hs j).length = 0 := by rw [hne]; rfl
          rw [h0] at hwk
          have q0 : W2.cell? ⟨P.wb j, 0, none⟩ = some (.slice A0 0 cv) := hwk.cell 0
          have hsl := slice_tail1 (t := 22) (e := 4) Try.underlying22 (by kernel_rfl) (some a) (l.length + 1) cp (by omega)
          rw [Nat.add_sub_cancel] at hsl
          have e2 := d0
          have tu3 : Turns [] W2 W2.drew := (Turns.refl [] _).drew
          have okw3 := hM.okw _ _ _ hi2
          have hI4 := SI.tasks (Mv.of_turns tu3 (by simp) (fun x hx => by cases hx)) hi2
          have ht := ihl j (tailO (some a) cp) (cp - 1) _ r s hj ((hB2.tail (cp := cp) hcp).mv (okw3.mv hM tu3)) (by omega) hI4
          have hF4 := f2.trans (okw3.fr hM tu3)
          have oo := (fun (b : Nat) (t : TypeId) (cs : Array Value) (y : (SM P).Bx W2 b t cs) (W : World) (f : Fr P.L P.ws W2.drew W) => (f.lies (y.l.drew) y.out y.row))
          rw [hst]
          have hbl := hB2.most
          simp only [List.length_cons] at hbl
          generalize startS j l s = R at *
          clear ihl hst hi hi2 hB2 hB hI4 hwk hown hne h0 f2 okw3
          unfold Gm.Then at *
          show Calls _ _ #[stV P, .slice (some a) (l.length + 1) cp, ptr (P.wb j)] _ _
          go_enter Try.func15, Try.ntmps15
          go_upto_region 7 with (fail)
          clear hW2 hbs
          go_region_held3 (fun W' => W'.cell? ⟨bs, 0, none⟩ = some (ptr P.p) ∧ W'.cell? ⟨bs, 1, none⟩ = some (.int .i64 0) ∧ W'.cell? ⟨bs, 2, none⟩ = some (.func (.func 38) #[] #[]) ∧ W'.cell? ⟨bs + 1, 0, none⟩ = some (.slice (some a) (l.length + 1) cp) ∧ W'.cell? ⟨bs + 1 + 1, 0, none⟩ = some (ptr (P.wb j)))
            (first | exact ⟨c0, c1, c2, e2, e0⟩ | exact ⟨u0, u1, u2, u3, u4⟩)
            (first
              | (go_at_call 15
                 refine ht.mono ?_
                 rintro e w5 ⟨v, rfl, hq5, t5⟩
                 have o1 := oo _ _ _ y1 _ t5
                 have u0 : w5.cell? ⟨bs, 0, none⟩ = some (ptr P.p) := o1.cell 0
                 have u1 : w5.cell? ⟨bs, 1, none⟩ = some (.int .i64 0) := o1.cell 1
                 have u2 : w5.cell? ⟨bs, 2, none⟩ = some (.func (.func 38) #[] #[]) := o1.cell 2
                 have u3 : w5.cell? ⟨bs + 1, 0, none⟩ = some (.slice (some a) (l.length + 1) cp) := (oo _ _ _ y2 _ t5).cell 0
                 have u4 : w5.cell? ⟨bs + 1 + 1, 0, none⟩ = some (ptr (P.wb j)) := (oo _ _ _ y0 _ t5).cell 0))
          go_wp2
          go_ret
          exact ⟨v, rfl, hq5, hF4.trans t5⟩
        · obtain ⟨q, hq⟩ : ∃ q, (s.hs j).length = q + 1 := ⟨(s.hs j).length - 1, by have := List.length_pos_iff.2 hne; omega⟩
          obtain ⟨x, hx⟩ : ∃ x, (s.hs j)[q]? = some x := ⟨_, List.getElem?_eq_getElem (by omega)⟩
          have hlast : (s.hs j).getLast? = some x := by rw [List.getLast?_eq_getElem?, hq]; exact hx
          have hxb := hi2.hb j hj x (List.mem_of_getElem? hx)
          have hst : startS j (false :: l) s = (⟨j, .pushR x, l⟩, s) := by
            show (match (s.hs j).getLast? with | none => startS j l s | some i => (⟨j, .pushR i, l⟩, s)) = _
            rw [hlast]
          obtain ⟨g, c, rfl, hBg, hglt⟩ := hown.form (by omega)
          rw [hq] at hwk
          have q0 : W2.cell? ⟨P.wb j, 0, none⟩ = some (.slice (some ⟨g, 0, none⟩) (q + 1) c) := hwk.cell 0
          have q1 : W2.cell? ⟨g, q, none⟩ = some (.int .i64 x) := by
            rcases hown.2 with ⟨h0, _⟩ | ⟨g', cap, cur, hv, _, hg, hnc, hcs⟩
            · cases h0
            · injection hv with hv _ _
              injection hv with hv
              injection hv with hv _ _
              subst hv
              rw [cell_of_row W2 g q cur 3 (0, 0) hg]
              have h1 : (intVs (s.hs j))[q]? = some (.int .i64 x) := by unfold intVs; rw [List.getElem?_map, hx]; rfl
              rw [← hcs.2.2, List.getElem?_take, if_pos (by omega)] at h1
              simpa using h1
          have hmx : q < 100000 := by have := (hi2.size j hj).1; omega
          have hwq : IntKind.i64.wrap (q : Int) = q := by rw [IntKind.wrap_i64]; omega
          have hwq1 : IntKind.i64.wrap ((q : Int) + 1 - 1) = q := by rw [IntKind.wrap_i64]; omega
          have hq0 : ¬ ((q : Int) + 1 = 0) := by omega
          have few := hG.few
          have tu3 : Turns [] W2 W2.drew := (Turns.refl [] _).drew
          have okw3 := hM.okw _ _ _ hi2
          have hi4 := SI.tasks (Mv.of_turns tu3 (by simp) (fun x hx => by cases hx)) hi2
          have mv4 := okw3.mv hM tu3
          have z0 := y0.mv mv4
          have z1 := y1.mv mv4
          have z2 := y2.mv mv4
          have hp := push_f (M := fun y : Ups P => SM (P.up y.1)) (E := fun y n => y.1.From n) (p := P.p) (c := P.c) (m := m) (f := 42) (cap := #[ptr (bs + 1 + 1), ptr bs, ptr (bs + 1)]) (w := W2.drew) (i := x) (fun y => smAr (P.up y.1) y.2) (fun y => sm_ok _ y.2) (fun y => sm_ch (P.up y.1) y.2) (fun _ => ⟨hxb.1, hxb.2⟩) ((sm_ch P hG).ix x ⟨hxb.1, hxb.2⟩) (fun y => sm_push (P.up y.1) y.2 j x l) ent_code2 (Ups.fam (hM.okw _ _ _ hi4)) (fun y => sm_lk (P.up y.1) _) hM (hM.okw _ _ _ hi4) (sm_lk P _) ((sm_ch P hG).begin ⟨hxb.1, hxb.2⟩ hi4) (fun y hy => code2_g y.2 (SP.up_nw hj) (by rw [SP.up_wb hj]; exact z0.up hy (Nat.le_refl _)) (z1.up hy (Nat.le_refl _)) (z2.up hy (Nat.le_refl _)) ((hB2.mv mv4).up hy (Nat.le_refl _)) hcp (fun n _ => code_g y.2 n l))
          have fin : ∀ W v, Turns [] W2.drew W → (∀ y : Ups P, y.1.From W.heap.size → (SM (P.up y.1)).Code m ⟨j, .pushR x, l⟩ v W) → (SI P r s W ∧ ∀ x' : More, (P.up x').Good → x'.From W.heap.size → (SM (P.up x')).Code m ⟨j, .pushR x, l⟩ v W) ∧ Fr P.L P.ws w W := fun W v tu hc =>
            ⟨⟨hM.made tu hi4, fun x' h1 h2 => hc ⟨x', h1⟩ h2⟩, (f2.trans (okw3.fr hM tu3)).trans ((hM.okw _ _ _ hi4).fr hM tu)⟩
          rw [hst]
          have hbl := hB2.most
          simp only [List.length_cons] at hbl
          clear ihl hst hi hi2 hB2 hB hi4 hwk hown hne f2 okw3 z0 z1 z2 y0 y1 y2 mv4 hlast hx hq
          unfold Gm.Then MakesF at *
          show Calls _ _ #[stV P, .slice (some a) (l.length + 1) cp, ptr (P.wb j)] _ _
          go_enter Try.func15, Try.ntmps15
          go_upto_region 8 with (fail)
          clear hW2 hbs
          go_region
          go_wp2_with fail
          refine hp.mono ?_
          rintro e w5 ⟨v, rfl, hc5, t5⟩
          go_wp2
          go_ret
          exact ⟨v, rfl, fin _ _ t5 hc5⟩
end

end Go.Proofs.Ythjbmaeoogophaa

/- The chain's things, told without a step. -/
namespace Go.Proofs.Ythjbmaeoogophaa
open Go.RowKit
set_option maxRecDepth 100000

theorem at_any (b : Nat) (l : List Int) (i : Int) (w : World) (h : Lies w b 75 (nums l)) :
    Calls Try.prog 72 #[.slice (some ⟨b, 0, none⟩) l.length l.length, .int .i64 i] w fun e w' => e = .returned (.int .u64 (getA l i)) ∧ w' = w := by
  by_cases h0 : i < 0
  · have e0 : getA l i = 0 := getA_out (by unfold hasA; simp; omega)
    rw [e0]
    go_enter Try.func72, Try.ntmps72
    go_wp2
    go_ret
    exact ⟨rfl, rfl⟩
  · by_cases h1 : (l.length : Int) ≤ i
    · have e0 : getA l i = 0 := getA_out (by unfold hasA; simp; omega)
      rw [e0]
      go_enter Try.func72, Try.ntmps72
      go_wp2
      go_ret
      exact ⟨rfl, rfl⟩
    · obtain ⟨m, rfl⟩ : ∃ m : Nat, i = m := ⟨i.toNat, by omega⟩
      have hc := h.cell m
      rw [nums_at (by omega)] at hc
      have hm : (m : Int) < l.length := by omega
      have h1 : ¬ ((l.length : Int) ≤ (m : Int)) := h1
      go_enter Try.func72, Try.ntmps72
      go_wp2
      go_ret
      exact ⟨rfl, rfl⟩

/-- the things from x on, so many of them at most. -/
def chL (l : List Int) (lk : Int → Int) : Nat → Int → List Int
  | 0, _ => []
  | n + 1, x => if x = -1 then [] else x :: chL l lk n (lkd (getA l (lk x)))

theorem chL_stop (l : List Int) (lk : Int → Int) (n : Nat) : chL l lk n (-1) = [] := by
  cases n with
  | zero => rfl
  | succ n => exact if_pos rfl

theorem Out.made {w W W' : World} {v : Value} {xs : List Int} (h : Out w v xs W) (k : Turns [] W W') : Out w v xs W' :=
  ⟨h.row.below (k.below (by simp) (Nat.le_refl _)) (Nat.le_refl _), h.be.trans ((k.below (by simp) (Nat.le_refl _)).mono h.be.size)⟩

/-- within the loop: so many rounds are through, x is next, xs were told; w3 is the world ahead of it. -/
structure InL (w3 : World) (l : List Int) (lk : Int → Int) (D : Int → Prop) (all : List Int) (v : Value) (x : Int) (m : Nat) (W : World) : Prop where
  le : m ≤ l.length
  ix : x = -1 ∨ D x
  out : ∃ xs, Out w3 v xs W ∧ xs.length ≤ m ∧ xs ++ chL l lk (l.length - m) x = all

set_option maxHeartbeats 1000000 in
theorem follow_any (bt : Nat) (x0 : Int) (lf : FuncId) (lcap : Array Value) (lk : Int → Int) (l : List Int) (w : World) (hc : Lies w bt 75 (nums l)) (hF : ∀ i, N64 (getA l i)) (hE : Ent lf) (hn : l.length ≤ 10000)
    (D : Int → Prop) (hD : ∀ i, D i → 0 ≤ i ∧ i ≤ 4611686018427387904) (h0 : x0 = -1 ∨ D x0) (hx : ∀ i, D i → lkd (getA l (lk i)) = -1 ∨ D (lkd (getA l (lk i))))
    (hL : ∀ W i, D i → Calls Try.prog lf (#[.int .i64 i] ++ lcap) W fun e W' => e = .returned (.int .i64 (lk i)) ∧ Turns [] W W') :
    Calls Try.prog 70 #[.slice (some ⟨bt, 0, none⟩) l.length l.length, .int .i64 x0, .func (.func lf) #[] lcap] w fun e w' => ∃ v, e = .returned v ∧ IRow w' w.heap.size v (chL l lk l.length x0) ∧ Below w.heap.size w w' := by
  unfold Ent at hE
  obtain ⟨all, hall⟩ : ∃ all, chL l lk l.length x0 = all := ⟨_, rfl⟩
  rw [hall]
  have ut := hc.lt
  have hat : InL w l lk D all (.slice none 0 0) x0 0 w := ⟨Nat.zero_le _, h0, [], ⟨IRow.nil _ _, Below.refl _ _⟩, by simp, by rw [← hall]; rfl⟩
  have fin : ∀ v W xs, Out w v xs W → xs = all → IRow W w.heap.size v all ∧ Below w.heap.size w W := fun v W xs ho e => by
    subst e
    exact ⟨ho.row, ho.be⟩
  clear hall h0
  go_enter Try.func70, Try.ntmps70
  go_wp2_with fail
  go_loopw [7, 8, 12] (fun v i cc W => ∃ (m : Nat) (x : Int), cc = .int .i64 (m : Int) ∧ i = .int .i64 x ∧ InL w l lk D all v x m W) (fun _ _ cc _ => l.length - (intOf cc).toNat)
  case atStart => exact ⟨0, _, rfl, rfl, hat⟩
  case round =>
    clear hat
    obtain ⟨m, x, rfl, rfl, hI⟩ := hrel
    obtain ⟨xs, ho, hxm, hxs⟩ := hI.out
    have hle := hI.le
    by_cases hlt : m < l.length
    · by_cases hx1 : x = -1
      · subst hx1
        rw [chL_stop, List.append_nil] at hxs
        have F := fin _ _ _ ho hxs
        clear fin ho hI
        go_wp2_with fail
        go_ret
        exact ⟨_, rfl, F⟩
      · have hix : D x := by
          rcases hI.ix with h1 | h1
          · exact absurd h1 hx1
          · exact h1
        have hxb := hD x hix
        have hx' : (x == -1) = false := by simp [hx1]
        have hwf : (Lit.int .i64 x).wf = true := WalkArith.wf_i64 (by omega)
        have q5 := hc.below ho.be ut
        have F : ∀ v' W', Out w v' (xs ++ [x]) W' → InL w l lk D all v' (lkd (getA l (lk x))) (m + 1) W' := fun v' W' ho' =>
          ⟨by omega, hx x hix, xs ++ [x], ho', by simp; omega, by
            rw [← hxs]
            obtain ⟨d, hd⟩ : ∃ d, l.length - m = d + 1 := ⟨l.length - m - 1, by omega⟩
            rw [hd, show l.length - (m + 1) = d by omega]
            show xs ++ [x] ++ chL l lk d (lkd (getA l (lk x))) = xs ++ (if x = -1 then [] else x :: chL l lk d (lkd (getA l (lk x))))
            rw [if_neg hx1, List.append_assoc]
            rfl⟩
        have hLx := fun W => hL W x hix
        clear fin hI hL hx hD
        go_wp2_with (first | (at_builtin; refine wpList_out ho hwf (by omega) (by rfl) (.tmp 16) (.tmp 18) rfl rfl rfl ?_; intro vv w6 ho6; have q7 := hc.below ho6.be ut) | fail)
        clear q5 ho
        refine (hLx _).mono ?_
        rintro e w7 ⟨rfl, t7⟩
        have q8 := q7.turn t7 (by simp)
        have F := F _ _ (ho6.made t7)
        clear q7 ho6 t7
        go_wp2_with fail
        refine (at_any bt l (lk x) w7 q8).mono ?_
        rintro e w8 ⟨rfl, rfl⟩
        go_wp2_with fail
        refine (linked_g (getA l (lk x)) (hF _) _).mono ?_
        rintro e w9 ⟨rfl, rfl⟩
        go_wp2
        go_roundw
        case rel => exact ⟨m + 1, _, by go_num, rfl, F⟩
        case measure => simp [intOf]; omega
    · obtain rfl : m = l.length := by omega
      rw [Nat.sub_self] at hxs
      have F := fin _ _ _ ho (by rw [← hxs]; simp [chL])
      clear fin ho hI
      go_wp2_with fail
      go_ret
      exact ⟨_, rfl, F⟩

theorem IRow.less {W : World} {B B' : Nat} {v : Value} {xs : List Int} (h : IRow W B v xs) (k : B' ≤ B) : IRow W B' v xs := by
  refine ⟨⟨h.own.1, ?_⟩, h.ints⟩
  rcases h.own.2 with h1 | ⟨g, cap, cur, h1, h2, h3⟩
  · exact .inl h1
  · exact .inr ⟨g, cap, cur, h1, Nat.le_trans k h2, h3⟩

theorem chlist_any (p c : Nat) (h : Int) (lf : FuncId) (lcap : Array Value) (lk : Int → Int) (l : List Int) (k : Int) (w : World) (ha : Arena w p c l k) (hE : Ent lf) (hn : l.length ≤ 10000)
    (D : Int → Prop) (hD : ∀ i, D i → 0 ≤ i ∧ i ≤ 4611686018427387904) (h0 : hIx (getA l h) = -1 ∨ D (hIx (getA l h))) (hx : ∀ i, D i → lkd (getA l (lk i)) = -1 ∨ D (lkd (getA l (lk i))))
    (hL : ∀ W i, D i → Calls Try.prog lf (#[.int .i64 i] ++ lcap) W fun e W' => e = .returned (.int .i64 (lk i)) ∧ Turns [] W W') :
    Calls Try.prog 44 #[chV p h lf lcap] w fun e w' => ∃ v, e = .returned v ∧ IRow w' w.heap.size v (chL l lk l.length (hIx (getA l h))) ∧ Below w.heap.size w w' := by
  have l0 : Lies (w.alloc (.cells (chC p h lf lcap) 93)) w.heap.size 93 (chC p h lf lcap) := Lies.new _ _ _
  have k0 : Turns [] w (w.alloc (.cells (chC p h lf lcap) 93)) := (Turns.refl _ _).alloc _
  have ha1 := ha.turn k0 (by simp) (by simp)
  have hall := all_any p c l k _ ha1
  obtain ⟨c0, c1, c2⟩ := ch_cells l0
  have hz : (w.alloc (.cells (chC p h lf lcap) 93)).heap.size = w.heap.size + 1 := by simp
  have hF : ∀ i, N64 (getA l i) := fun i => ha.fitA i
  have hfw := fun bt W h1 => follow_any bt (hIx (getA l h)) lf lcap lk l W h1 hF hE hn D hD h0 hx hL
  have hN : N64 (getA l h) := ha.fitA h
  obtain ⟨all, hal⟩ : ∃ all, chL l lk l.length (hIx (getA l h)) = all := ⟨_, rfl⟩
  rw [hal] at hfw ⊢
  clear hL hx hD h0 hal
  unfold Ent at hE
  go_enter Try.func44, Try.ntmps44
  go_wp2_with fail
  generalize (w.alloc (.cells (chC p h lf lcap) 93)) = W1 at *
  refine hall.mono ?_
  rintro e w2 ⟨rfl, t1, t2, t3⟩
  have l2 := l0.below t2 (by rw [hz]; omega)
  have b2 : Below w.heap.size w w2 := (k0.below (by simp) (Nat.le_refl _)).trans (t2.mono (by rw [hz]; omega))
  clear hall l0 k0 ha1 c0 c1 c2 t2 ha hF hE
  obtain ⟨c0, c1, c2⟩ := ch_cells l2
  have hfh := fun W => field_head1 (hCt (getA l h)) (hIx (getA l h)) W
  generalize hbt : W1.heap.size = bt at *
  have g0 := l2.lt
  have at_ : ∀ W', Turns [] w2 W' → Lies W' bt 75 (nums l) := fun W' k => t1.turn k (by simp)
  have sz := b2.size
  have fin : ∀ W' W'' v, Turns [] w2 W' → IRow W'' W'.heap.size v all → Below W'.heap.size W' W'' → IRow W'' w.heap.size v all ∧ Below w.heap.size w W'' := fun W' W'' v k h1 h2 =>
    ⟨h1.less (Nat.le_trans sz k.size), b2.trans ((k.below (B := w.heap.size) (by simp) sz).trans (h2.mono (Nat.le_trans sz k.size)))⟩
  clear t1 l2 b2 hbt hz sz
  go_wp2_with fail
  go_region_held3 (fun W' => W'.cell? ⟨w.heap.size, 1, none⟩ = some (.int .i64 h) ∧ W'.cell? ⟨w.heap.size, 2, none⟩ = some (.func (.func lf) #[] lcap))
    (first | exact ⟨c1, c2⟩ | exact ⟨d1, d2⟩ | exact ⟨u1, u2⟩ | exact ⟨v1, v2⟩)
    (first
      | (go_at_call 72
         refine (at_any bt l h _ (at_ _ (Turns.refl [] w2).drew)).mono ?_
         rintro e w3 ⟨rfl, rfl⟩
         have k3 : Turns [] w2 w2.drew := (Turns.refl [] w2).drew
         have d1 := (k3.cell (p := ⟨w.heap.size, 1, none⟩) g0 (by simp)).trans c1
         have d2 := (k3.cell (p := ⟨w.heap.size, 2, none⟩) g0 (by simp)).trans c2)
      | (go_at_call 71
         refine (headof_g (getA l h) hN _).mono ?_
         rintro e w4 ⟨rfl, t4⟩
         have k4 := k3.trans t4
         have u1 := (k4.cell (p := ⟨w.heap.size, 1, none⟩) g0 (by simp)).trans c1
         have u2 := (k4.cell (p := ⟨w.heap.size, 2, none⟩) g0 (by simp)).trans c2)
      | (go_at_call 70
         refine (hfw bt _ (at_ _ k4)).mono ?_
         rintro e w5 ⟨v, rfl, h5, b5⟩
         have F := fin _ _ _ k4 h5 b5
         have v1 := (b5.cell (p := ⟨w.heap.size, 1, none⟩) (Nat.lt_of_lt_of_le g0 k4.size)).trans u1
         have v2 := (b5.cell (p := ⟨w.heap.size, 2, none⟩) (Nat.lt_of_lt_of_le g0 k4.size)).trans u2))
  all_goals
    go_wp2
    go_ret
    exact ⟨_, rfl, F⟩

end Go.Proofs.Ythjbmaeoogophaa

/- A stack's things; a stack without things. -/
namespace Go.Proofs.Ythjbmaeoogophaa
open Go.RowKit
set_option maxRecDepth 100000

theorem stlist_any (p c : Nat) (h : Int) (lf : FuncId) (lcap : Array Value) (lk : Int → Int) (l : List Int) (k : Int) (w : World) (ha : Arena w p c l k) (hE : Ent lf) (hn : l.length ≤ 10000)
    (D : Int → Prop) (hD : ∀ i, D i → 0 ≤ i ∧ i ≤ 4611686018427387904) (h0 : hIx (getA l h) = -1 ∨ D (hIx (getA l h))) (hx : ∀ i, D i → lkd (getA l (lk i)) = -1 ∨ D (lkd (getA l (lk i))))
    (hL : ∀ W i, D i → Calls Try.prog lf (#[.int .i64 i] ++ lcap) W fun e W' => e = .returned (.int .i64 (lk i)) ∧ Turns [] W W') :
    Calls Try.prog 20 #[chV p h lf lcap] w fun e w' => ∃ v, e = .returned v ∧ IRow w' w.heap.size v (chL l lk l.length (hIx (getA l h))) ∧ Below w.heap.size w w' := by
  have k0 : Turns [] w (w.alloc (.cells (chC p h lf lcap) 27)) := (Turns.refl _ _).alloc _
  have hc := chlist_any p c h lf lcap lk l k _ (ha.turn k0 (by simp) (by simp)) hE hn D hD h0 hx hL
  clear hL hx hD h0
  have fin : ∀ W' v xs, IRow W' (w.alloc (.cells (chC p h lf lcap) 27)).heap.size v xs → Below (w.alloc (.cells (chC p h lf lcap) 27)).heap.size (w.alloc (.cells (chC p h lf lcap) 27)) W' → IRow W' w.heap.size v xs ∧ Below w.heap.size w W' := fun W' v xs h1 h2 =>
    ⟨h1.less k0.size, (k0.below (by simp) (Nat.le_refl _)).trans (h2.mono k0.size)⟩
  clear k0
  go_enter Try.func20, Try.ntmps20
  go_wp2_with fail
  refine hc.mono ?_
  rintro e w2 ⟨v, rfl, h1, h2⟩
  have F := fin _ _ _ h1 h2
  clear fin h1 h2 hc
  go_wp2
  go_ret
  exact ⟨v, rfl, F⟩

theorem fresh8_any (n : Nat) (hn : n ≤ 1000) (w : World) :
    Calls Try.prog 13 #[.int .i64 n] w fun e w' => ∃ p c, e = .returned (.tuple #[chV p 0 38 #[], .bool true]) ∧ Arena w' p c (List.replicate (n + 1) 0) 0 ∧ Below w.heap.size w w' ∧ w.heap.size ≤ c ∧ c < p := by
  have hm := new_any (n + 1) (w.alloc (.cells #[.pointer none, .int .i64 0, .nilFunc] 27)) (by omega) (by omega)
  have hw : IntKind.i64.wrap (1 + (n : Int)) = ((n + 1 : Nat) : Int) := by rw [IntKind.wrap_i64]; omega
  have hz : (w.alloc (.cells #[.pointer none, .int .i64 0, .nilFunc] 27)).heap.size = w.heap.size + 1 := by simp
  go_enter Try.func13, Try.ntmps13
  go_wp2_with fail
  refine (show Calls Try.prog 37 #[.int .i64 ((n : Int) + 1)] _ _ from hm).mono ?_
  rintro e w2 ⟨rfl, h1, h2, h3⟩
  have lS := (Lies.new w 27 #[.pointer none, .int .i64 0, .nilFunc]).below h2 (by simp)
  have k2 : Below w.heap.size w w2 := ((Below.refl _ w).alloc (Nat.le_refl _) _).trans (h2.mono (by rw [hz]; omega))
  rw [hz] at h1
  simp only [hz]
  clear hm hz h2 h3 hw
  have hmf : ∀ (fn : Fn) (first cap : Array Value) (w : World), (Instr.makeFunc fn first cap).run Try.prog w = .ok (.func fn first cap) w := fun _ _ _ _ => rfl
  obtain ⟨c0, c1, c2⟩ : w2.cell? ⟨w.heap.size, 0, none⟩ = some (.pointer none) ∧ w2.cell? ⟨w.heap.size, 1, none⟩ = some (.int .i64 0) ∧ w2.cell? ⟨w.heap.size, 2, none⟩ = some .nilFunc := ⟨lS.cell 0, lS.cell 1, lS.cell 2⟩
  have f0 : w2.frozen? ⟨w.heap.size, 0, none⟩ = false := lS.frozen 0
  have f1 : w2.frozen? ⟨w.heap.size, 1, none⟩ = false := lS.frozen 1
  have f2 : w2.frozen? ⟨w.heap.size, 2, none⟩ = false := lS.frozen 2
  have y2 := fun (a : Addr) (f : FuncId) (c : Array Value) (w : World) => run_store Try.prog w a (.func (.func f) #[] c) .plain rfl
  go_wp2
  have lE : Lies (((w2.setCell ⟨w.heap.size, 0, none⟩ (.pointer (some ⟨w.heap.size + 1 + 1, 0, none⟩))).setCell ⟨w.heap.size, 1, none⟩ (.int .i64 0)).setCell ⟨w.heap.size, 2, none⟩ (.func (.func 38) #[] #[])) w.heap.size 27 #[.pointer (some ⟨w.heap.size + 1 + 1, 0, none⟩), .int .i64 0, .func (.func 38) #[] #[]] := ((lS.set 0 _).set 1 _).set 2 _
  have tu : Turns [w.heap.size] w2 (((w2.setCell ⟨w.heap.size, 0, none⟩ (.pointer (some ⟨w.heap.size + 1 + 1, 0, none⟩))).setCell ⟨w.heap.size, 1, none⟩ (.int .i64 0)).setCell ⟨w.heap.size, 2, none⟩ (.func (.func 38) #[] #[])) := (((Turns.refl [w.heap.size] w2).setCell (p := ⟨w.heap.size, 0, none⟩) (.inl (by simp)) _).setCell (p := ⟨w.heap.size, 1, none⟩) (.inl (by simp)) _).setCell (p := ⟨w.heap.size, 2, none⟩) (.inl (by simp)) _
  generalize (((w2.setCell ⟨w.heap.size, 0, none⟩ (.pointer (some ⟨w.heap.size + 1 + 1, 0, none⟩))).setCell ⟨w.heap.size, 1, none⟩ (.int .i64 0)).setCell ⟨w.heap.size, 2, none⟩ (.func (.func 38) #[] #[])) = W5 at *
  obtain ⟨e0, e1, e2⟩ : W5.cell? ⟨w.heap.size, 0, none⟩ = some (.pointer (some ⟨w.heap.size + 1 + 1, 0, none⟩)) ∧ W5.cell? ⟨w.heap.size, 1, none⟩ = some (.int .i64 0) ∧ W5.cell? ⟨w.heap.size, 2, none⟩ = some (.func (.func 38) #[] #[]) := ⟨lE.cell 0, lE.cell 1, lE.cell 2⟩
  refine bodyPost_ret (v := .tuple #[.agg #[.pointer (some ⟨w.heap.size + 1 + 1, 0, none⟩), .int .i64 0, .func (.func 38) #[] #[]], .bool true]) ?_ rfl ?_
  · clear y2 hmf c0 c1 c2 f0 f1 f2
    simp [results, Try.results13, go_sem, e0, e1, e2]
    try rfl
  exact ⟨_, _, rfl, h1.turn tu (by simp; omega) (by simp), k2.trans (tu.below (by simp) k2.size), by omega, by omega⟩

end Go.Proofs.Ythjbmaeoogophaa

/- Layer 8: the document's Pop and Push. -/
namespace Go.Proofs.Ythjbmaeoogophaa
open Go.RowKit
set_option maxRecDepth 100000

theorem Row.tail1 {w : World} {A : Option Addr} {n cp : Nat} {x : Int} {xs : List Int} (h : Row w .i64 A (n + 1) (x :: xs)) (hc : n + 1 ≤ cp) : Row w .i64 (tailO A cp) n xs := by
  refine ⟨by have := h.len; simp at this; exact this, by have := h.most; omega, fun y hy => h.wf y (by simp [hy]), fun hn => ?_⟩
  obtain ⟨a, rfl, hab, hcell⟩ := h.at_ (by omega)
  refine ⟨a.add 1, by unfold tailO; rw [if_neg (by omega)]; rfl, by rw [add_block]; exact hab, fun i hi => ?_⟩
  have := hcell (i + 1) (by omega)
  rw [Go.Deep.add_add, show 1 + i = i + 1 by omega, this]
  simp

theorem refpop_none (A : Option Addr) (cp : Nat) (w : World) :
    Calls Try.prog 16 #[.slice A 0 cp] w fun e w' => e = .returned (.tuple #[.slice A 0 cp, .int .i64 (-1), .bool false]) ∧ w' = w := by
  go_enter Try.func16, Try.ntmps16
  go_wp2
  go_ret3
  exact ⟨rfl, rfl⟩
theorem refpop_some (A : Option Addr) (n cp : Nat) (x : Int) (xs : List Int) (w : World) (h : Row w .i64 A (n + 1) (x :: xs)) (hn : n ≤ 100000) :
    Calls Try.prog 16 #[.slice A (n + 1) cp] w fun e w' => e = .returned (.tuple #[.slice (tailO A cp) n (cp - 1), .int .i64 x, .bool true]) ∧ w' = w.drew := by
  obtain ⟨a, rfl, hab, hcell⟩ := h.at_ (by omega)
  have hc0 := hcell 0 (by omega)
  have e0 : a.add 0 = a := by simp [Addr.add]
  simp only [List.getD_cons_zero, e0] at hc0
  clear e0
  have hsl := slice_tail1 (t := 31) (e := 3) Try.underlying31 (by kernel_rfl) (some a) (n + 1) cp (by omega)
  rw [Nat.add_sub_cancel] at hsl
  have hn1 : ¬ ((n : Int) + 1 = 0) := by omega
  clear hcell h
  go_enter Try.func16, Try.ntmps16
  go_wp2_with fail
  go_region
  go_wp2
  go_ret3
  exact ⟨rfl, rfl⟩
theorem refpush_any (A : Option Addr) (n cp : Nat) (i : Int) (xs : List Int) (w : World) (h : Row w .i64 A n xs) (hi : (Lit.int .i64 i).wf = true) (hn : n ≤ 10000) :
    Calls Try.prog 17 #[.slice A n cp, .int .i64 i] w fun e w' => ∃ v, e = .returned v ∧ IRow w' w.heap.size v (i :: xs) ∧ Below w.heap.size w w' := by
  have hL := IRow.lit w (B := w.heap.size) [i] #[.int .i64 i] rfl (Nat.le_refl _) (Ints.one hi) (by simp)
  have k0 : Below w.heap.size w (w.alloc (.cells #[.int .i64 i] 3)) := (Below.refl _ _).alloc (Nat.le_refl _) _
  have hr := h.keep (Nat.le_refl _) k0
  rcases Nat.eq_zero_or_pos n with h0 | h0
  · subst h0
    have hxs : xs = [] := List.length_eq_zero_iff.1 h.len
    subst hxs
    obtain ⟨i0, hi0, _⟩ := info_parts int_info4
    clear h hr
    go_enter Try.func17, Try.ntmps17
    go_wp2_with (first | (at_builtin; refine wpList_irow_zero rfl (.tmp 6) (.tmp 7) 31 rfl 3 i0 Try.underlying31 hi0 _ 1 1 A 0 cp rfl (Nat.le_refl _) rfl rfl ?_) | fail)
    go_ret
    exact ⟨_, rfl, hL, k0⟩
  · clear h
    go_enter Try.func17, Try.ntmps17
    go_wp2_with (first | (at_builtin; refine wpList_irow hL (by simp) rfl (.tmp 6) (.tmp 7) rfl rfl rfl hr h0 (by simp; omega) ?_; intro v' w' r1 r2 _) | fail)
    go_ret
    exact ⟨_, rfl, r1, k0.trans r2⟩

end Go.Proofs.Ythjbmaeoogophaa

/- The document's Same. -/
namespace Go.Proofs.Ythjbmaeoogophaa
open Go.RowKit

set_option maxHeartbeats 1000000 in
theorem rsame_any (A B : Option Addr) (n cp cq : Nat) (xs : List Int) (w : World) (hr : Row w .i64 A n xs) (hq : Row w .i64 B n xs) :
    Calls Try.prog 19 #[.slice A n cp, .slice B n cq] w fun e w' => e = .returned (.bool true) ∧ Below w.heap.size w w' := by
  have hmx := hr.most
  unfold maxLen at hmx
  go_enter Try.func19, Try.ntmps19
  go_wp2_with fail
  go_loopw [5] (fun i W => ∃ m : Nat, m ≤ n ∧ i = .int .i64 m ∧ Below w.heap.size w W) (fun i _ => n - (intOf i).toNat)
  case atStart => exact ⟨0, by omega, rfl, Below.refl _ _⟩
  case round =>
    obtain ⟨m, hmn, rfl, hb⟩ := hrel
    by_cases hlt : m < n
    · obtain ⟨a, rfl, hab, hcell⟩ := (hr.keep (Nat.le_refl _) hb).at_ (by omega)
      obtain ⟨b, rfl, hbb, hcell2⟩ := (hq.keep (Nat.le_refl _) hb).at_ (by omega)
      have hc := hcell m hlt
      have hd := hcell2 m hlt
      clear hcell hcell2
      generalize xs.getD m 0 = y at *
      go_wp2_with fail
      go_quiet (fail)
      go_wp2
      go_roundw
      case rel => exact ⟨m + 1, by omega, by go_num, by first | exact hb | exact drawn hb _ | exact hb.drew⟩
      case measure => simp [intOf]; omega
    · obtain rfl : m = n := by omega
      go_wp2
      go_ret
      exact ⟨rfl, hb⟩

end Go.Proofs.Ythjbmaeoogophaa
