/- Layer 8: StackAlone's rounds: what holds there. -/
import Derived.Test.YthjbmaeoogophaaU4
import Derived.Deep.DeepCutAuto
import Derived.StillTailTactics
import Derived.RegionTactic
namespace Go.Proofs.Ythjbmaeoogophaa
open Go.RowKit Go.ChangeShapes Go.WideShapes
set_option maxRecDepth 100000

/-- the same machine; the law may write these blocks between steps. -/
def SP.with (P : SP) (ex : List Nat) : SP := { P with ex := ex }
section
variable {P : SP} {r B : Nat} {s : SSt} {W W' : World} {K ex : List Nat}
theorem SP.Good.with (h : P.Good) (ex : List Nat) : (P.with ex).Good := ⟨h.low, h.inj, h.ginj, h.sep, h.few⟩
theorem SI.with (h : SI P r s W) (he : ∀ b, b ∈ ex → b < W.heap.size) : SI (P.with ex) r s W := ⟨h.ar, h.room, h.ok, h.wk, h.gt, h.hb, h.size, h.apart, he⟩
theorem SI.bare (h : SI (P.with ex) r s W) (hP : P.ex = []) : SI P r s W := ⟨h.ar, h.room, h.ok, h.wk, h.gt, h.hb, h.size, h.apart, fun b hb => by rw [hP] at hb; cases hb⟩

/-- a slice that the document's answer told. -/
structure MRow (P : SP) (mv : Value) (ts : List Int) (hv : Value) (W : World) : Prop where
  at_ : ∃ A cp, mv = .slice A ts.length cp ∧ ts.length ≤ cp ∧ Row W .i64 A ts.length ts ∧ ∀ a, A = some a → 0 < ts.length → a.block ∉ P.L ∧ ¬ Rw P.ws W a.block ∧ hv.ownBlock ≠ some a.block
theorem Row.heap {w w' : World} {A : Option Addr} {n : Nat} {xs : List Int} (h : Row w .i64 A n xs) (hs : w.heap.size ≤ w'.heap.size) (k : ∀ a, A = some a → 0 < n → w'.heap[a.block]? = w.heap[a.block]?) : Row w' .i64 A n xs :=
  ⟨h.len, h.most, h.wf, fun hn => by
    obtain ⟨a, e, hb, hc⟩ := h.at_ hn
    exact ⟨a, e, Nat.lt_of_lt_of_le hb hs, fun i hi => (World.cell?_of_block (w := w) (by rw [add_block]; exact k a e hn)).trans (hc i hi)⟩⟩
theorem MRow.fr {mv hv : Value} {ts : List Int} (h : MRow P mv ts hv W) (f : Fr P.L P.ws W W') : MRow P mv ts hv W' := by
  obtain ⟨A, cp, e, h1, h2, h3⟩ := h.at_
  have hlt : ∀ a, A = some a → 0 < ts.length → a.block < W.heap.size := fun a ea hn => by
    obtain ⟨a', e', hb, _⟩ := h2.at_ hn
    rw [ea] at e'
    injection e' with e'
    subst e'
    exact hb
  exact ⟨A, cp, e, h1, h2.heap f.size fun a ea hn => f.block _ (hlt a ea hn) (h3 a ea hn).1 (h3 a ea hn).2.1, fun a ea hn => ⟨(h3 a ea hn).1, f.row (hlt a ea hn) (h3 a ea hn).2.1, (h3 a ea hn).2.2⟩⟩
/-- hands were appended to, or cut. -/
theorem MRow.turn (hG : P.Good) (hi : SI P r s W) {mv hv hv' : Value} {ts : List Int} (h : MRow P mv ts hv W) (t : Turns hv.ownBlock.toList W W') (hK : ∀ b, b ∈ hv.ownBlock.toList → b ∉ P.L) (hn : ∀ g, hv'.ownBlock = some g → hv.ownBlock = some g ∨ W.heap.size ≤ g) : MRow P mv ts hv' W' := by
  obtain ⟨A, cp, e, h1, h2, h3⟩ := h.at_
  have hlt : ∀ a, A = some a → 0 < ts.length → a.block < W.heap.size := fun a ea hp => by
    obtain ⟨a', e', hb, _⟩ := h2.at_ hp
    rw [ea] at e'
    injection e' with e'
    subst e'
    exact hb
  exact ⟨A, cp, e, h1, h2.heap t.size fun a ea hp => t.block _ (hlt a ea hp) (fun hm => (h3 a ea hp).2.2 (by simpa using hm)), fun a ea hp => ⟨(h3 a ea hp).1, fun q => (h3 a ea hp).2.1 (SI.rows_turns hG hi t hK q), fun e2 => by
    rcases hn _ e2 with h4 | h4
    · exact (h3 a ea hp).2.2 h4
    · have := hlt a ea hp; omega⟩⟩
theorem MRow.nil (hv : Value) : MRow P (.slice none 0 0) [] hv W := ⟨none, 0, rfl, Nat.le_refl _, ⟨rfl, by simp, by simp, fun h => by simp at h⟩, fun a e => by cases e⟩
theorem MRow.tail {A : Option Addr} {cp : Nat} {i : Int} {ts : List Int} {hv : Value} (h : MRow P (.slice A (ts.length + 1) cp) (i :: ts) hv W) : MRow P (.slice (tailO A cp) ts.length (cp - 1)) ts hv W := by
  obtain ⟨A', cp', e, h1, h2, h3⟩ := h.at_
  injection e with e1 _ e3
  subst e1
  subst e3
  have h1 : ts.length + 1 ≤ cp := h1
  refine ⟨_, _, rfl, by omega, Row.tail1 (n := ts.length) h2 h1, fun a ea hp => ?_⟩
  unfold tailO at ea
  rw [if_neg (by omega)] at ea
  obtain ⟨a', rfl, rfl⟩ := Option.map_eq_some_iff.1 ea
  rw [add_block]
  exact h3 a' rfl (by simp)
theorem MRow.row {mv hv : Value} {ts : List Int} (h : MRow P mv ts hv W) : ∃ A cp, mv = .slice A ts.length cp ∧ Row W .i64 A ts.length ts := by
  obtain ⟨A, cp, e, _, h2, _⟩ := h.at_
  exact ⟨A, cp, e, h2⟩
/-- what was just made by a call. -/
theorem MRow.new (hG : P.Good) (hi : SI P r s W) {v hv : Value} {xs : List Int} (h : IRow W' W.heap.size v xs) (b : Below W.heap.size W W') (hv1 : ∀ g, hv.ownBlock = some g → g < W.heap.size) : MRow P v xs hv W' := by
  have hL : LRow P W.heap.size v xs W' := LRow.new hG hi h b (Nat.le_refl _)
  obtain ⟨A, cp, e, hr⟩ := h.row
  obtain ⟨A', cp', e', hle⟩ := own_slice h.own
  rw [e] at e'
  injection e' with e1 _ e3
  subst e1
  subst e3
  refine ⟨A, cp, e, hle, hr, fun a ea hp => ?_⟩
  have ho : v.ownBlock = some a.block := by
    rcases h.own.2 with ⟨h0, h1⟩ | ⟨g, cap, cur, h0, _⟩
    · omega
    · rw [h0] at e
      injection e with e _ _
      rw [ea] at e
      injection e with e
      rw [h0, ← e]
      rfl
  refine ⟨(hL.out _ ho).1, (hL.out _ ho).2, fun e2 => ?_⟩
  have h1 := hv1 _ e2
  have h2 := (h.lt _ ho).1
  omega

theorem LRow.lt {v : Value} {xs : List Int} (h : LRow P B v xs W) : ∀ g, v.ownBlock = some g → g < W.heap.size := fun g hg => (h.row.lt g hg).2
/-- the law's own row, appended to. -/
theorem LRow.grow (hG : P.Good) (hi : SI P r s W) {hv : Value} {xs ys : List Int} (h : LRow P B hv xs W) {g cap n : Nat} {W9 : World} (ho : W9.ownsRow B 3 1 (.slice (some ⟨g, 0, none⟩) n cap) n (ys.map (Value.int .i64))) (hy : ys.length = n) (hw : Ints ys) (hg : W.grownBy W9 hv.ownBlock) (hat : hv.ownBlock = some g ∨ W.heap.size ≤ g) :
    LRow P B (.slice (some ⟨g, 0, none⟩) n cap) ys W9 ∧ Turns hv.ownBlock.toList W W9 := by
  have t : Turns hv.ownBlock.toList W W9 := ⟨hg.os, hg.tape, hg.output, hg.size, fun b hb hn => hg.block b hb (fun e => hn (by rw [← e]; simp))⟩
  have hK : ∀ b, b ∈ hv.ownBlock.toList → b ∉ P.L := fun b hb => (h.out b (by simpa using hb)).1
  subst hy
  refine ⟨⟨⟨ho, hw⟩, fun b hb => ?_⟩, t⟩
  simp [Value.ownBlock] at hb
  subst hb
  rcases hat with h1 | h1
  · exact ⟨(h.out _ h1).1, fun q => (h.out _ h1).2 (SI.rows_turns hG hi t hK q)⟩
  · refine ⟨fun hm => ?_, fun q => ?_⟩
    · have := ((sm_ok P hG).okw _ _ _ hi).lt _ hm
      omega
    · obtain ⟨_, cur, hl⟩ := hi.rw (SI.rows_turns hG hi t hK q)
      have := hl.lt
      omega
/-- the law's own row, cut at its end. -/
theorem LRow.cut {A : Option Addr} {n cap : Nat} {ys : List Int} {y : Int} (h : LRow P B (.slice A (n + 1) cap) (ys ++ [y]) W) (hy : ys.length = n) : LRow P B (.slice A n cap) ys W := by
  have ho : W.ownsRow B 3 1 (.slice A (n + 1) cap) (n + 1) (intVs ys ++ intVs [y]) := by
    have := h.row.own
    rw [List.length_append, hy, List.map_append] at this
    exact this
  have hA : ∃ g, A = some ⟨g, 0, none⟩ := by
    rcases ho.2 with ⟨h0, _⟩ | ⟨g, c, cur, h0, _⟩
    · cases h0
    · injection h0 with h0 _ _
      exact ⟨g, h0⟩
  obtain ⟨g, rfl⟩ := hA
  refine ⟨⟨?_, fun x hx => h.row.ints x (List.mem_append.2 (.inl hx))⟩, fun b hb => h.out b hb⟩
  rw [hy]
  exact ownsRow_pop (size := 1) (by rw [List.length_map, hy, Nat.mul_one]) ho
end

/-- in StackAlone's loop: t acts are through. -/
structure Al (w0 : World) (P : SP) (bx B0 k t : Nat) (mv hv : Value) (W : World) : Prop where
  si : ∃ s ts, SI P (6 * (60 - t)) s W ∧ One k s.l (s.hs 0) ts ∧ s.wr 0 = false ∧ MRow P mv ts hv W ∧ LRow P B0 hv (s.hs 0) W
  box : (SM P).Bx W bx 27 (stC P)
  be : Below B0 w0 W
  le : t ≤ 60

/-- ahead of its act's steps: a task at block tk, whose code is begun. -/
structure Ax (w0 : World) (P : SP) (bx B0 m tk : Nat) (ex : List Nat) (q : SPr) (s : SSt) (W : World) : Prop where
  si : SI (P.with ex) m s W
  task : (SM (P.with ex)).Task m q 0 tk W
  w : (SM (P.with ex)).W q s
  box : (SM P).Bx W bx 27 (stC P)
  be : Below B0 w0 W
  low : B0 ≤ tk
theorem Ax.turns {w0 : World} {P : SP} {bx B0 m tk : Nat} {ex : List Nat} {q : SPr} {s : SSt} {W W' : World} (hG : P.Good) (hP : P.ex = []) (h : Ax w0 P bx B0 m tk ex q s W) (hB : B0 ≤ W.heap.size) (t : Turns ex W W') (hx : ∀ b, b ∈ ex → b ∉ P.L ∧ ¬ Rw P.ws W b ∧ b ≠ tk ∧ b ≠ bx ∧ B0 ≤ b) : Ax w0 P bx B0 m tk ex q s W' := by
  have hi := h.si.bare hP
  have hi' := hi.turns t fun b hb => ⟨(hx b hb).1, (hx b hb).2.1⟩
  refine ⟨hi'.with fun b hb => Nat.lt_of_lt_of_le (h.si.exl b hb) t.size, h.task.keep (t.block _ h.task.lt fun hm => (hx _ hm).2.2.1 rfl) ?_, h.w, Gm.Bx.turns hG hi h.box t (fun b hb => (hx b hb).1) (fun hm => (hx _ hm).2.2.2.1 rfl), h.be.trans (t.below (fun b hb => (hx b hb).2.2.2.2) hB), h.low⟩
  exact Mv.of_turns t (fun b hb => .inl (List.mem_append.2 (.inr hb))) fun x hxm => ⟨hi.block_lt hxm, fun hm => (hx _ hm).1 ((sm_ok P hG).cells x hxm)⟩

/-- what the act's steps will do. -/
def Acts8 (P : SP) (ex : List Nat) (k : Nat) (q : SPr) (s : SSt) (hs ts : List Int) : Prop :=
  (SM (P.with ex)).ended ((SM (P.with ex)).runN q s 0 6).1 = true ∧ One k ((SM (P.with ex)).runN q s 0 6).2.1.l (((SM (P.with ex)).runN q s 0 6).2.1.hs 0) ts ∧ ((SM (P.with ex)).runN q s 0 6).2.1.hs 0 = hs ∧ ((SM (P.with ex)).runN q s 0 6).2.1.wr 0 = false

structure Am (w0 : World) (P : SP) (bx B0 k m tk : Nat) (mv hv : Value) (W : World) : Prop where
  si : ∃ (ex : List Nat) (q : SPr) (s : SSt) (hs ts : List Int), Ax w0 P bx B0 m tk ex q s W ∧ Acts8 P ex k q s hs ts ∧ MRow P mv ts hv W ∧ LRow P B0 hv hs W
  off : (∀ A n c a, mv = .slice A n c → A = some a → 0 < n → a.block ≠ tk) ∧ hv.ownBlock ≠ some tk

section
variable {P : SP} {r B tk : Nat} {s : SSt} {W W' : World}
theorem MRow.past {mv hv : Value} {ts : List Int} (h : MRow P mv ts hv W) (f : Fr (tk :: P.L) P.ws W W') (ht : ∀ A n c a, mv = .slice A n c → A = some a → 0 < n → a.block ≠ tk) : MRow P mv ts hv W' := by
  obtain ⟨A, cp, e, h1, h2, h3⟩ := h.at_
  have hlt : ∀ a, A = some a → 0 < ts.length → a.block < W.heap.size := fun a ea hn => by
    obtain ⟨a', e', hb, _⟩ := h2.at_ hn
    rw [ea] at e'
    injection e' with e'
    subst e'
    exact hb
  exact ⟨A, cp, e, h1, h2.heap f.size fun a ea hn => f.block _ (hlt a ea hn) (fun hm => by
    rcases List.mem_cons.1 hm with h4 | h4
    · exact ht _ _ _ _ e ea hn h4
    · exact (h3 a ea hn).1 h4) (h3 a ea hn).2.1, fun a ea hn => ⟨(h3 a ea hn).1, f.row (hlt a ea hn) (h3 a ea hn).2.1, (h3 a ea hn).2.2⟩⟩
theorem LRow.past {v : Value} {xs : List Int} (h : LRow P B v xs W) (f : Fr (tk :: P.L) P.ws W W') (ht : v.ownBlock ≠ some tk) : LRow P B v xs W' :=
  ⟨h.row.kept fun g hg => f.block g (h.row.lt g hg).2 (fun hm => by
    rcases List.mem_cons.1 hm with h4 | h4
    · exact ht (by rw [hg, h4])
    · exact (h.out g hg).1 h4) (h.out g hg).2, fun g hg => ⟨(h.out g hg).1, f.row (h.row.lt g hg).2 (h.out g hg).2⟩⟩
theorem Gm.Bx.past {b : Nat} {t : TypeId} {cs : Array Value} (x : (SM P).Bx W b t cs) (f : Fr (tk :: P.L) P.ws W W') (hb : b ≠ tk) : (SM P).Bx W' b t cs :=
  ⟨f.lies x.l (fun hm => by
    rcases List.mem_cons.1 hm with h4 | h4
    · exact hb h4
    · exact x.out h4) x.row, x.out, f.row x.l.lt x.row, x.ty, x.outX⟩
theorem W_mark {q : SPr} {j k : Nat} {b : Bool} (h : (SM P).W q s) : (SM P).W q (s.mark j k b) := by
  have e : (s.mark j k b).hs = s.hs := by
    unfold SSt.mark
    split
    · rfl
    · split <;> rfl
  obtain ⟨i, m, l⟩ := q
  cases m <;> first | trivial | (show (s.mark j k b).hs i ≠ []; rw [e]; exact h)
end

/-- 'append([]int{}, l...)'. -/
theorem wpList_copy {W : World} {B' : Nat} {xs : List Int} {ops : Array Oper} {rest : List Oper} {o : Oper} {a : Act} {Q : Exit → Act → World → Prop} (hgd : o.guard = none) (s x : Operand) (ho : o.op = .call { callee := .builtin .append, args := #[s, x], argTypes := #[31, 31] })
    (hs : a.eval s = .slice (some ⟨W.heap.size, 0, none⟩) 0 0) (v : Value) (hx : a.eval x = v) (hr : W.ownsRow B' 3 1 v xs.length (xs.map (Value.int .i64))) (hi : Ints xs) (hl : xs.length ≤ 1000)
    (hK : ∀ v' w', IRow w' W.heap.size v' xs → Turns [] W w' → wpList Try.prog ops Q rest (a.put o.dst v') w') : wpList Try.prog ops Q (o :: rest) a (W.alloc (.cells #[] 3)) := by
  obtain ⟨i0, hi0, hz0, hz1, hz2⟩ := info_parts int_info4
  have h0 : (W.alloc (.cells #[] 3)).ownsRow W.heap.size 3 1 (.slice (some ⟨W.heap.size, 0, none⟩) 0 0) 0 [] :=
    ⟨rfl, .inr ⟨W.heap.size, 0, #[], rfl, Nat.le_refl _, heap_alloc_new W _, Nat.le_refl _, by simp [maxLen], rfl, rfl⟩⟩
  have k0 : Turns [] W (W.alloc (.cells #[] 3)) := (Turns.refl _ _).alloc _
  by_cases hn : xs.length = 0
  · obtain rfl := List.length_eq_zero_iff.1 hn
    obtain ⟨A, c, rfl, _⟩ := own_slice hr
    exact wpList_append_zero hgd s x 31 ho 3 i0 Try.underlying31 hi0 ⟨W.heap.size, 0, none⟩ 0 0 A c (Nat.le_refl _) hs hx (hK _ _ ⟨h0, Ints.nil⟩ k0)
  · obtain ⟨g, c, rfl, _, hglt⟩ := hr.form (by omega)
    refine wpList_append_lies _ hgd s x 31 ho W.heap.size 3 i0 _ 1 8 Try.underlying31 hi0 hz0 hz1 hz2 rfl (by omega) _ 0 [] hs h0 ⟨g, 0, none⟩ xs.length c (xs.map (Value.int .i64)) hx (by simp) ?_ ?_ (by omega) (by simp only [maxLen]; omega) (by omega) (by simp) _ rfl ?_
    · intro j u hu
      have := hr.cells (g := g) rfl j u hu
      exact (k0.cell (by rw [add_block]; exact hglt) (by simp)).trans this
    · intro u hu
      obtain ⟨j, _, rfl⟩ := List.mem_map.1 hu
      rfl
    · intro g' cap w' h1 h2 h3 _
      rw [Nat.zero_add] at h1 ⊢
      refine hK _ _ ⟨by simpa using h1, hi⟩ ⟨h2.os, h2.tape, h2.output, ?_, fun b hb _ => ?_⟩
      · have := h2.size
        simp at this
        omega
      · rw [h2.block b (by simp; omega) (by simp [Value.ownBlock]; omega)]
        exact Below.heap_alloc W _ b hb

section
variable {w0 : World} {P : SP} {bx B0 k m tk : Nat} {ex : List Nat} {q : SPr} {s : SSt} {W : World} {mv hv : Value} {hs ts : List Int} {i : Int}
theorem Am.same (hG : P.Good) (hP : P.ex = []) (ax : Ax w0 P bx B0 m tk ex q s W) (hx : ∀ b, b ∈ ex → b ∉ P.L ∧ ¬ Rw P.ws W b ∧ b ≠ tk ∧ b ≠ bx ∧ B0 ≤ b) (hB : B0 ≤ W.heap.size) (act : Acts8 P ex k q s hs ts) (mr : MRow P mv ts hv W) (lr : LRow P B0 hv hs W)
    (o1 : ∀ A n c a, mv = .slice A n c → A = some a → 0 < n → a.block ≠ tk) (o2 : hv.ownBlock ≠ some tk) {W' : World} (t : Turns [] W W') : Am w0 P bx B0 k m tk mv hv W' := by
  have f := ((sm_ok P hG).okw _ _ _ (ax.si.bare hP)).fr (sm_ok P hG) t
  exact ⟨⟨ex, q, s, hs, ts, ax.turns hG hP hB (t.more (by simp)) hx, act, mr.fr f, lr.fr f⟩, o1, o2⟩

theorem Am.pop (hG : P.Good) (hP : P.ex = []) {A : Option Addr} {cp : Nat} (ax : Ax w0 P bx B0 m tk ex q s W) (hex : hv.ownBlock.toList = ex) (hx : ∀ b, b ∈ ex → b ∉ P.L ∧ ¬ Rw P.ws W b ∧ b ≠ tk ∧ b ≠ bx ∧ B0 ≤ b) (hB : B0 ≤ W.heap.size) (act : Acts8 P ex k q s (hs ++ [i]) ts) (mr : MRow P (.slice A (ts.length + 1) cp) (i :: ts) hv W) (lr : LRow P B0 hv hs W)
    (o1 : ∀ A' n c a, Value.slice A (ts.length + 1) cp = .slice A' n c → A' = some a → 0 < n → a.block ≠ tk) (o2 : hv.ownBlock ≠ some tk) (hi : (Lit.int .i64 i).wf = true)
    {g cap : Nat} {w9 : World} (ho : w9.ownsRow B0 3 1 (.slice (some ⟨g, 0, none⟩) (hs.length + 1) cap) (hs.length + 1) (hs.map (Value.int .i64) ++ [.int .i64 i])) (hg : (W.drew.alloc (.cells #[.int .i64 i] 3)).grownBy w9 hv.ownBlock) (hat : hv.ownBlock = some g ∨ g = W.heap.size + 1) :
    Am w0 P bx B0 k m tk (.slice (tailO A cp) ts.length (cp - 1)) (.slice (some ⟨g, 0, none⟩) (hs.length + 1) cap) w9 := by
  have t1 : Turns [] W (W.drew.alloc (.cells #[.int .i64 i] 3)) := ((Turns.refl [] W).drew).alloc _
  have htk := ax.task.lt
  have hi0 := ax.si.bare hP
  have f := ((sm_ok P hG).okw _ _ _ hi0).fr (sm_ok P hG) t1
  have hi1 := hi0.turns t1 (by simp)
  have lr1 := lr.fr f
  have mr1 := mr.fr f
  have ax1 := ax.turns hG hP hB (t1.more (by simp)) hx
  have hz : (W.drew.alloc (.cells #[.int .i64 i] 3)).heap.size = W.heap.size + 1 := by simp
  generalize (W.drew.alloc (.cells #[.int .i64 i] 3)) = W1 at *
  obtain ⟨lr2, t2⟩ := lr1.grow hG hi1 (ys := hs ++ [i]) (by rw [List.map_append]; exact ho) (by simp) (lr.row.ints.app (Ints.one hi)) hg (hat.imp id fun h => by omega)
  have hK : ∀ b, b ∈ hv.ownBlock.toList → b ∉ P.L := fun b hb => (hx b (hex ▸ hb)).1
  have mr2 := (mr1.turn hG hi1 t2 hK (hv' := .slice (some ⟨g, 0, none⟩) (hs.length + 1) cap) (fun g' hg' => by
    simp [Value.ownBlock] at hg'
    subst hg'
    rcases hat with h | h
    · exact .inl h
    · exact .inr (by omega))).tail
  rw [hex] at t2
  refine ⟨⟨ex, q, s, hs ++ [i], ts, ax1.turns hG hP (by omega) t2 (fun b hb => ?_), act, mr2, lr2⟩, fun A' n c a e1 e2 hn => ?_, fun e => ?_⟩
  · obtain ⟨h1, h2, h3⟩ := hx b hb
    exact ⟨h1, fun q => h2 (SI.rows_turns hG hi0 t1 (by simp) q), h3⟩
  · obtain ⟨A'', cp'', e3, h4, _⟩ := mr.at_
    injection e3 with e3 _ e4
    subst e4
    have h4 : ts.length + 1 ≤ cp := h4
    injection e1 with e1 e5 _
    subst e1
    subst e5
    unfold tailO at e2
    rw [if_neg (by omega)] at e2
    obtain ⟨a', ha', rfl⟩ := Option.map_eq_some_iff.1 e2
    rw [add_block]
    exact o1 A _ _ a' rfl ha' (by omega)
  · simp [Value.ownBlock] at e
    subst e
    rcases hat with h | h
    · exact o2 h
    · omega

theorem Am.push (hG : P.Good) (hP : P.ex = []) {A : Option Addr} {n cp : Nat} (ax : Ax w0 P bx B0 m tk ex q s W) (hx : ∀ b, b ∈ ex → b ∉ P.L ∧ ¬ Rw P.ws W b ∧ b ≠ tk ∧ b ≠ bx ∧ B0 ≤ b) (hB : B0 ≤ W.heap.size) (act : Acts8 P ex k q s hs (i :: ts)) (lr : LRow P B0 (.slice A (n + 1) cp) (hs ++ [i]) W) (hn : hs.length = n)
    (o2 : (Value.slice A (n + 1) cp).ownBlock ≠ some tk) {v : Value} {W0 W' : World} (t0 : Turns [] W W0) (h : IRow W' W0.heap.size v (i :: ts)) (b : Below W0.heap.size W0 W') : Am w0 P bx B0 k m tk v (.slice A n cp) W' := by
  have htk := ax.task.lt
  have hi0 := ax.si.bare hP
  have t : Turns [] W0 W' := Turns.of_below b (Nat.le_refl _)
  have f := ((sm_ok P hG).okw _ _ _ hi0).fr (sm_ok P hG) (t0.trans t)
  have f0 := ((sm_ok P hG).okw _ _ _ hi0).fr (sm_ok P hG) t0
  have hb : (Value.slice A n cp).ownBlock = (Value.slice A (n + 1) cp).ownBlock := by cases A <;> rfl
  have hm : MRow P v (i :: ts) (.slice A n cp) W' := MRow.new hG (hi0.turns t0 (by simp)) h b (fun g hg => (lr.fr f0).lt g (by rw [← hb]; exact hg))
  refine ⟨⟨ex, q, s, hs, i :: ts, ax.turns hG hP hB ((t0.trans t).more (by simp)) hx, act, hm, (lr.fr f).cut hn⟩, fun A' n' c a e1 e2 hp => ?_, by rw [hb]; exact o2⟩
  have hg : v.ownBlock = some a.block := by
    rcases h.own.2 with ⟨h0, _⟩ | ⟨g, cap, cur, h0, _⟩
    · rw [h0] at e1; injection e1 with e1 _ _; rw [← e1] at e2; cases e2
    · rw [h0] at e1
      injection e1 with e1 _ _
      rw [← e1] at e2
      injection e2 with e2
      rw [h0, ← e2]
      rfl
  have := (h.lt _ hg).1
  have := t0.size
  omega
end

end Go.Proofs.Ythjbmaeoogophaa

/- Layer 8: the document's Each; the picks by which tasks come to their ends. -/
namespace Go.Proofs.Ythjbmaeoogophaa
open Go.RowKit Go.ChangeShapes Go.WideShapes
set_option maxRecDepth 100000

/-- 'append([]int{}, l...)', of a slice that was handed in. -/
theorem wpList_copyr {W : World} {A : Option Addr} {c : Nat} {xs : List Int} {ops : Array Oper} {rest : List Oper} {o : Oper} {a : Act} {Q : Exit → Act → World → Prop} (hgd : o.guard = none) (s x : Operand) (ho : o.op = .call { callee := .builtin .append, args := #[s, x], argTypes := #[31, 31] })
    (hs : a.eval s = .slice (some ⟨W.heap.size, 0, none⟩) 0 0) (hx : a.eval x = .slice A xs.length c) (hr : Row W .i64 A xs.length xs) (hl : xs.length ≤ 1000)
    (hK : ∀ g c' w', IRow w' W.heap.size (.slice (some ⟨g, 0, none⟩) xs.length c') xs → xs.length ≤ c' → Turns [] W w' → wpList Try.prog ops Q rest (a.put o.dst (.slice (some ⟨g, 0, none⟩) xs.length c')) w') : wpList Try.prog ops Q (o :: rest) a (W.alloc (.cells #[] 3)) := by
  obtain ⟨i0, hi0, hz0, hz1, hz2⟩ := info_parts int_info4
  have h0 : (W.alloc (.cells #[] 3)).ownsRow W.heap.size 3 1 (.slice (some ⟨W.heap.size, 0, none⟩) 0 0) 0 [] :=
    ⟨rfl, .inr ⟨W.heap.size, 0, #[], rfl, Nat.le_refl _, heap_alloc_new W _, Nat.le_refl _, by simp [maxLen], rfl, rfl⟩⟩
  have k0 : Turns [] W (W.alloc (.cells #[] 3)) := (Turns.refl _ _).alloc _
  by_cases hn : xs.length = 0
  · obtain rfl := List.length_eq_zero_iff.1 hn
    exact wpList_append_zero hgd s x 31 ho 3 i0 Try.underlying31 hi0 ⟨W.heap.size, 0, none⟩ 0 0 A c (Nat.le_refl _) hs hx (hK _ 0 _ ⟨h0, Ints.nil⟩ (Nat.le_refl _) k0)
  · obtain ⟨ad, rfl, hab, hcell⟩ := hr.at_ (by omega)
    refine wpList_append_lies _ hgd s x 31 ho W.heap.size 3 i0 _ 1 8 Try.underlying31 hi0 hz0 hz1 hz2 rfl (by omega) _ 0 [] hs h0 ad xs.length c (xs.map (Value.int .i64)) hx (by simp) ?_ ?_ (by omega) (by simp only [maxLen]; omega) (by omega) (by simp) _ rfl ?_
    · intro j u hu
      rw [List.getElem?_map] at hu
      obtain ⟨y, hy, rfl⟩ := Option.map_eq_some_iff.1 hu
      have hj : j < xs.length := (List.getElem?_eq_some_iff.1 hy).1
      rw [(k0.cell (p := ad.add j) (by rw [add_block]; exact hab) (by simp)), hcell j hj]
      simp [List.getD, hy]
    · intro u hu
      obtain ⟨j, _, rfl⟩ := List.mem_map.1 hu
      rfl
    · intro g' cap w' h1 h2 h3 _
      rw [Nat.zero_add] at h1 ⊢
      refine hK _ _ _ ⟨by simpa using h1, hr.wf⟩ ?_ ⟨h2.os, h2.tape, h2.output, ?_, fun b hb _ => ?_⟩
      · obtain ⟨A', c', e, hle⟩ := own_slice (n := xs.length) h1
        injection e with _ _ e3
        omega
      · have := h2.size
        simp at this
        omega
      · rw [h2.block b (by simp; omega) (by simp [Value.ownBlock]; omega)]
        exact Below.heap_alloc W _ b hb
/-- 'append(l, m...)', of a slice of the call's own that isn't nil. -/
theorem wpList_morer {W : World} {B g c : Nat} {A : Option Addr} {ca : Nat} {xs ys : List Int} {ops : Array Oper} {rest : List Oper} {o : Oper} {a : Act} {Q : Exit → Act → World → Prop} (hgd : o.guard = none) (s x : Operand) (ho : o.op = .call { callee := .builtin .append, args := #[s, x], argTypes := #[31, 31] })
    (h : IRow W B (.slice (some ⟨g, 0, none⟩) xs.length c) xs) (hc : xs.length ≤ c) (hB : B ≤ W.heap.size) (hs : a.eval s = .slice (some ⟨g, 0, none⟩) xs.length c) (hx : a.eval x = .slice A ys.length ca) (hr : Row W .i64 A ys.length ys) (hl : xs.length + ys.length ≤ 100000)
    (hK : ∀ v' w', IRow w' B v' (xs ++ ys) → Below B W w' → wpList Try.prog ops Q rest (a.put o.dst v') w') : wpList Try.prog ops Q (o :: rest) a W := by
  by_cases hn : ys.length = 0
  · obtain rfl := List.length_eq_zero_iff.1 hn
    obtain ⟨i0, hi0, _⟩ := info_parts int_info4
    exact wpList_append_zero hgd s x 31 ho 3 i0 Try.underlying31 hi0 ⟨g, 0, none⟩ xs.length c A ca hc hs hx (hK _ _ (by rw [List.append_nil]; exact h) (Below.refl _ _))
  · exact wpList_irow h hB hgd s x ho hs hx hr (by omega) hl (fun v' w' h1 h2 _ => hK v' w' h1 h2)

/-- a block of numbers by a rule. -/
def cellsF (n : Nat) (f : Nat → Nat) : Array Value := ((List.range n).map fun i => Value.int .i64 (f i : Int)).toArray
theorem cellsF_at {n i : Nat} {f : Nat → Nat} (h : i < n) : (cellsF n f)[i]? = some (.int .i64 (f i : Int)) := by simp [cellsF, h]
theorem cellsF_set {n i v : Nat} {f : Nat → Nat} (_ : i < n) : (cellsF n f).setIfInBounds i (.int .i64 (v : Int)) = cellsF n (updF f i v) := by
  apply Array.ext
  · simp [cellsF]
  · intro j h1 h2
    by_cases e : i = j
    · subst e; simp [cellsF, updF]
    · have e2 : j ≠ i := fun h => e h.symm
      simp [cellsF, updF, e, e2]
theorem make_zeros (n : Nat) (hn : n ≤ 1048576) (W : World) :
    (Instr.makeSlice 31 (.int .i64 (n : Int)) (.int .i64 (n : Int))).run Try.prog W = .ok (.slice (some ⟨W.heap.size, 0, none⟩) n n) (W.alloc (.cells (cellsF n fun _ => 0) 3)) := by
  obtain ⟨i, hi, hz, hs, hb⟩ := info_parts (P := Try.prog) (t := 3) (z := .int .i64 0) (s := 1) (b := 8) (by kernel_rfl)
  have hr := run_make (P := Try.prog) W 31 3 i _ Try.underlying31 hi hz .i64 .i64 n n (by omega) (by omega) (by rw [hb]; omega) (by omega)
  simp only [Int.toNat_natCast, hs, Nat.mul_one] at hr
  rw [hr]
  have e : madeCells #[.int .i64 0] n = cellsF n fun _ => 0 := by
    apply Array.ext
    · simp [madeCells, cellsF]
    · intro i h1 h2
      simp [madeCells, cellsF, Nat.mod_one]
  show _ = Result.ok _ (W.alloc (.cells (cellsF n fun _ => 0) 3))
  rw [← e]
  rfl

/-- the picks of so many tasks, each picked 78 times. -/
def endsL (n : Nat) : List Int := (List.range n).flatMap fun (i : Nat) => List.replicate 78 (i : Int)
theorem endsL_succ (n : Nat) : endsL (n + 1) = endsL n ++ List.replicate 78 (n : Int) := by
  unfold endsL
  rw [List.range_succ, List.flatMap_append]
  simp
theorem endsL_len (n : Nat) : (endsL n).length = 78 * n := by
  induction n with
  | zero => rfl
  | succ n ih => rw [endsL_succ, List.length_append, ih, List.length_replicate]; omega

set_option maxHeartbeats 1000000 in
theorem ends_any (n : Nat) (hn : n ≤ 5) (w : World) : Calls Try.prog 21 #[.int .i64 n] w fun e w' => ∃ v, e = .returned v ∧ IRow w' w.heap.size v (endsL n) ∧ Below w.heap.size w w' := by
  have h0 : Out w (.slice none 0 0) [] w := ⟨IRow.nil _ _, Below.refl _ _⟩
  go_enter Try.func21, Try.ntmps21
  go_wp2_with fail
  go_loopw [3, 4, 6] (fun v _ i W => ∃ m : Nat, i = .int .i64 (m : Int) ∧ m ≤ n ∧ Out w v (endsL m) W) (fun _ _ i _ => n - (intOf i).toNat)
  case atStart => exact ⟨0, rfl, Nat.zero_le _, h0⟩
  case round =>
    clear h0
    obtain ⟨m, rfl, hmn, hO⟩ := hrel
    generalize wr = W at *
    generalize u3 = v at *
    by_cases hm : m < n
    · have hlen := endsL_len m
      go_wp2_with fail
      go_loopw [3, 9] (fun v j W => ∃ q : Nat, j = .int .i64 (q : Int) ∧ q ≤ 78 ∧ Out w v (endsL m ++ List.replicate q (m : Int)) W) (fun _ j _ => 78 - (intOf j).toNat)
      case atStart => exact ⟨0, rfl, Nat.zero_le _, by simpa using hO⟩
      case round =>
        clear hO
        obtain ⟨q, rfl, hq, hO⟩ := hrel
        generalize wr = W2 at *
        generalize u3 = v2 at *
        by_cases hq2 : q < 78
        · have hq3 : (q : Int) < 78 := by omega
          have hll : (endsL m ++ List.replicate q (m : Int)).length ≤ 10000 := by rw [List.length_append, hlen, List.length_replicate]; omega
          have F : ∀ v' w', Out w v' ((endsL m ++ List.replicate q (m : Int)) ++ [(m : Int)]) w' → Out w v' (endsL m ++ List.replicate (q + 1) (m : Int)) w' := fun v' w' h => by
            rw [List.append_assoc] at h
            rw [List.replicate_succ']
            exact h
          have hF := Lib.hid F
          clear F
          generalize endsL m ++ List.replicate q (m : Int) = ys at *
          go_wp2_with (first | (at_builtin; refine wpList_out hO (n := (m : Int)) (WalkArith.wf_i64 (by omega)) hll (by rfl) (.tmp 11) (.tmp 13) rfl rfl rfl ?_; intro v3 w3 hO3) | fail)
          go_roundw
          case rel => exact ⟨q + 1, by go_num, by omega, hF.out _ _ hO3⟩
          case measure => simp [intOf]; omega
        · obtain rfl : q = 78 := by omega
          rw [← endsL_succ] at hO
          go_wp2_with fail
          go_roundw
          case rel => exact ⟨m + 1, by go_num, by omega, hO⟩
          case measure => simp [intOf]; omega
    · obtain rfl : m = n := by omega
      go_wp2_with fail
      go_ret
      exact ⟨_, rfl, hO.row, hO.be⟩

end Go.Proofs.Ythjbmaeoogophaa

/- Layer 8: the document's Each. -/
namespace Go.Proofs.Ythjbmaeoogophaa
open Go.RowKit Go.ChangeShapes Go.WideShapes
set_option maxRecDepth 100000

theorem getD_get {l : List Int} {i : Nat} (h : i < l.length) : l.getD i 0 = l[i] := by simp [List.getD, h]
/-- in Each's first loop: m numbers are counted. -/
structure Ea (w : World) (k : Nat) (v : Value) (all : List Int) (m : Nat) (W : World) : Prop where
  le : m ≤ all.length
  cnt : Lies W w.heap.size 3 (cellsF k fun j => (all.take m).count (j : Int))
  row : IRow W (w.heap.size + 1) v all
  be : Below w.heap.size w W

set_option maxHeartbeats 1000000 in
theorem each_any (A B : Option Addr) (ca cb : Nat) (xs ys : List Int) (k : Nat) (w : World) (ha : Row w .i64 A xs.length xs) (hb : Row w .i64 B ys.length ys) (hp : (xs ++ ys).Perm ((List.range k).map fun (i : Nat) => (i : Int))) (hk : k ≤ 500) :
    Calls Try.prog 26 #[.slice A xs.length ca, .slice B ys.length cb, .int .i64 k] w fun e w' => e = .returned (.bool true) ∧ Below w.heap.size w w' := by
  have hmk := make_zeros k (by omega)
  have hlen : xs.length + ys.length = k := by have := hp.length_eq; simpa using this
  have hcount : ∀ j, j < k → (xs ++ ys).count ((j : Nat) : Int) = 1 := fun j hj => by
    rw [hp.count_eq]
    have hnd : ((List.range k).map fun (i : Nat) => (i : Int)).Nodup := by
      refine List.pairwise_map.2 (List.nodup_range.imp fun {a b} hne e => hne ?_)
      have e : (a : Int) = b := e
      omega
    rw [hnd.count, if_pos (List.mem_map.2 ⟨j, List.mem_range.2 hj, rfl⟩)]
  have hrange : ∀ i, i < (xs ++ ys).length → ∃ j : Nat, j < k ∧ (xs ++ ys).getD i 0 = (j : Int) := fun i hi => by
    have h1 : (xs ++ ys).getD i 0 ∈ xs ++ ys := by rw [getD_get hi]; exact List.getElem_mem hi
    obtain ⟨j, hj, e⟩ := List.mem_map.1 (hp.subset h1)
    exact ⟨j, List.mem_range.1 hj, e.symm⟩
  have kW : Turns [] w (w.alloc (.cells (cellsF k fun _ => 0) 3)) := (Turns.refl _ _).alloc _
  have lW : Lies (w.alloc (.cells (cellsF k fun _ => 0) 3)) w.heap.size 3 (cellsF k fun _ => 0) := Lies.new _ _ _
  have zW : (w.alloc (.cells (cellsF k fun _ => 0) 3)).heap.size = w.heap.size + 1 := by simp
  have bW : Below w.heap.size w (w.alloc (.cells (cellsF k fun _ => 0) 3)) := kW.below (by simp) (Nat.le_refl _)
  have haW := ha.keep (Nat.le_refl _) bW
  have hbW := hb.keep (Nat.le_refl _) bW
  have F : ∀ v w2 w3, Turns [] (w.alloc (.cells (cellsF k fun _ => 0) 3)) w2 → IRow w3 (w.alloc (.cells (cellsF k fun _ => 0) 3)).heap.size v (xs ++ ys) → Below (w.alloc (.cells (cellsF k fun _ => 0) 3)).heap.size w2 w3 → Ea w k v (xs ++ ys) 0 w3 := fun v w2 w3 t2 r3 b3 => by
    have l2 := lW.turn t2 (by simp)
    refine ⟨Nat.zero_le _, ?_, by rw [← zW]; exact r3, bW.trans ((t2.below (B := w.heap.size) (by simp) (by rw [zW]; omega)).trans (b3.mono (by rw [zW]; omega)))⟩
    have := l2.below b3 (by rw [zW]; omega)
    simpa using this
  have hbT : ∀ w2, Turns [] (w.alloc (.cells (cellsF k fun _ => 0) 3)) w2 → Row w2 .i64 B ys.length ys := fun w2 t2 => hbW.keep (Nat.le_refl _) (t2.below (by simp) (Nat.le_refl _))
  clear ha hb hp hbW
  go_enter Try.func26, Try.ntmps26
  go_upto_region 2 with (fail)
  clear kW lW bW hmk zW
  generalize (w.alloc (.cells (cellsF k fun _ => 0) 3)) = W1 at *
  go_upto_region 3 with (first | (at_builtin; refine wpList_copyr rfl (.tmp 13) (.tmp 14) rfl rfl rfl haW (by omega) ?_; intro g c' w2 r2 hc2 t2) | (at_builtin; refine wpList_morer rfl (.tmp 15) (.tmp 16) rfl r2 hc2 t2.size rfl rfl (hbT _ t2) (by omega) ?_; intro v3 w3 r3 b3) | fail)
  have hE := F _ _ _ t2 r3 b3
  clear F r2 r3 b3 t2 hbT haW
  obtain ⟨all, hall⟩ : ∃ all, xs ++ ys = all := ⟨_, rfl⟩
  rw [hall] at hE hcount hrange
  have hal : all.length = k := by rw [← hall, List.length_append]; exact hlen
  clear hall
  go_wp2_with fail
  go_loopw [9] (fun i W => ∃ m : Nat, i = .int .i64 (m : Int) ∧ Ea w k v3 all m W) (fun i _ => k - (intOf i).toNat)
  case atStart => exact ⟨0, rfl, hE⟩
  case round =>
    clear hE
    obtain ⟨m, rfl, hE⟩ := hrel
    generalize wr = W at *
    obtain ⟨hle, hcnt, hrow, hbe⟩ := hE
    by_cases hm : m < k
    · obtain ⟨x, hx, hxe⟩ := hrange m (by omega)
      obtain ⟨A3, c3, hv, hr3⟩ := hrow.row
      rw [hal] at hv hr3
      obtain ⟨a3, ea3, _, hc3⟩ := hr3.at_ (by omega)
      obtain ⟨g3, hg3⟩ : ∃ g3, A3 = some ⟨g3, 0, none⟩ := by
        rcases hrow.own.2 with ⟨h0, h1⟩ | ⟨g, cap, cur, h0, _⟩
        · omega
        · rw [h0] at hv
          injection hv with hv _ _
          exact ⟨g, hv.symm⟩
      have hcm : W.cell? ⟨g3, m, none⟩ = some (.int .i64 (x : Int)) := by
        rw [hg3] at ea3
        injection ea3 with ea3
        have := hc3 m hm
        rwa [← ea3, add_head4, hxe] at this
      have hne : g3 ≠ w.heap.size := fun e => by
        have := (hrow.lt g3 (by rw [hv, hg3]; rfl)).1
        omega
      have hcx : W.cell? ⟨w.heap.size, x, none⟩ = some (.int .i64 (((all.take m).count (x : Int) : Nat) : Int)) := by rw [hcnt.cell x, cellsF_at hx]
      have hfx : W.frozen? ⟨w.heap.size, x, none⟩ = false := hcnt.frozen x
      have hctm : (all.take m).count (x : Int) ≤ m := Nat.le_trans List.count_le_length (by rw [List.length_take]; omega)
      have F : Ea w k v3 all (m + 1) (W.drew.setCell ⟨w.heap.size, x, none⟩ (.int .i64 (((all.take m).count (x : Int) : Nat) + 1 : Int))) := by
        have e1 : all.take (m + 1) = all.take m ++ [(x : Int)] := by
          rw [List.take_succ_eq_append_getElem (by omega)]
          rw [getD_get (by omega)] at hxe
          rw [hxe]
        refine ⟨by omega, ?_, ?_, hbe.drew.setCell (p := ⟨w.heap.size, x, none⟩) (Nat.le_refl _) _⟩
        · have h1 := (hcnt.drew).set x (.int .i64 (((all.take m).count (x : Int) + 1 : Nat) : Int))
          rw [cellsF_set hx] at h1
          have e2 : (updF (fun j => (all.take m).count ((j : Nat) : Int)) x ((all.take m).count (x : Int) + 1)) = fun j => (all.take (m + 1)).count ((j : Nat) : Int) := by
            funext j
            rw [e1, List.count_append]
            by_cases e : j = x
            · subst e; simp [updF]
            · have e3 : ¬ ((x : Int) = (j : Int)) := by omega
              simp [updF, e, e3]
          rw [e2] at h1
          exact h1
        · refine hrow.kept fun g hg => ?_
          have hlt := (hrow.lt g hg)
          exact Below.heap_setCell W.drew ⟨w.heap.size, x, none⟩ _ g (by show g ≠ w.heap.size; omega)
      subst hv
      subst hg3
      have hkm : (m : Int) < k := by omega
      have hxk : (x : Int) < k := by omega
      have hxn : ¬ ((x : Int) < 0) := by omega
      have hxk2 : ¬ ((k : Int) ≤ x) := by omega
      clear hcnt hrow hbe hrange hcount hr3 hc3 ea3 hxe
      generalize (all.take m).count (x : Int) = cx at *
      go_upto_region 8 with (fail)
      go_still_tail 14, (by kernel_rfl)
      change wpList _ _ _ _ _ W.drew
      have hfx : W.drew.frozen? ⟨w.heap.size, x, none⟩ = false := hfx
      have hcx : W.drew.cell? ⟨w.heap.size, x, none⟩ = some (.int .i64 (cx : Int)) := hcx
      generalize W.drew = W9 at *
      go_wp2_with fail
      go_roundw
      case rel => exact ⟨m + 1, by go_num, F⟩
      case measure => simp [intOf]; omega
    · obtain rfl : m = k := by have := hal; omega
      have ht : all.take all.length = all := List.take_length
      rw [← hal, ht] at hcnt
      rw [hal] at hcnt
      have hone : ∀ i, i < m → W.cell? ⟨w.heap.size, i, none⟩ = some (.int .i64 1) := fun i hi => by
        rw [hcnt.cell i, cellsF_at hi, hcount i hi]
        rfl
      obtain ⟨A3, c3, hv, _⟩ := hrow.row
      rw [hal] at hv
      subst hv
      clear hcnt hrow hrange hcount ht
      go_wp2_with fail
      go_loopw [10] (fun i W9 => ∃ q : Nat, i = .int .i64 (q : Int) ∧ q ≤ m ∧ W9 = W) (fun i _ => m - (intOf i).toNat)
      case atStart => exact ⟨0, rfl, Nat.zero_le _, rfl⟩
      case round =>
        obtain ⟨q, rfl, hq, rfl⟩ := hrel
        by_cases hq2 : q < m
        · have h1 := hone q hq2
          go_wp2_with fail
          go_roundw
          case rel => exact ⟨q + 1, by go_num, by omega, by trivial⟩
          case measure => simp [intOf]; omega
        · obtain rfl : q = m := by omega
          go_wp2_with fail
          go_ret
          exact ⟨rfl, hbe⟩

end Go.Proofs.Ythjbmaeoogophaa

/- Layer 8: StackMany's loops: what holds there. -/
namespace Go.Proofs.Ythjbmaeoogophaa
open Go.RowKit Go.ChangeShapes Go.WideShapes
set_option maxRecDepth 100000

/-- one value more: where it lies then. -/
theorem wpList_vrowh {W : World} {B : Nat} {E : TypeId} {v : Value} {vs : List Value} {T : TypeId} {z u : Value} {ops : Array Oper} {rest : List Oper} {o : Oper} {a : Act} {Q : Exit → Act → World → Prop} (hT : Try.prog.underlying T = some (.slice E)) {nb : Nat} (hinfo : (Try.prog.info? E).map (fun i => (i.zero, i.size, i.bytes)) = some (some z, 1, nb)) (hnb : nb ≤ 1000) (hz : z.cells.size = 1) (hu : u.oneCell' = true)
    (h : VRow W B E v vs) (hB : B ≤ W.heap.size) (hl : vs.length ≤ 10000) (hgd : o.guard = none) (s x : Operand) (ho : o.op = .call { callee := .builtin .append, args := #[s, x], argTypes := #[T, T] })
    (hs : a.eval s = v) (hx : a.eval x = .slice (some ⟨W.heap.size, 0, none⟩) 1 1)
    (hK : ∀ v' w', VRow w' B E v' (vs ++ [u]) → Turns v.ownBlock.toList W w' → (∀ g, v'.ownBlock = some g → v.ownBlock = some g ∨ W.heap.size ≤ g) → wpList Try.prog ops Q rest (a.put o.dst v') w') : wpList Try.prog ops Q (o :: rest) a (W.alloc (.cells #[u] E)) := by
  obtain ⟨i0, hi0, hz0, hz1, hz2⟩ := info_parts hinfo
  refine wpList_append_lies _ hgd s x T ho B E i0 _ 1 nb hT hi0 hz0 hz1 hz2 hz (by omega) v vs.length vs hs (h.own.alloc _) ⟨W.heap.size, 0, none⟩ 1 1 [u] hx rfl ?_ ?_ (by omega) (by simp only [maxLen]; omega) (Nat.le_trans (Nat.mul_le_mul (show vs.length + 1 ≤ 10001 by omega) hnb) (by omega)) (by simp; omega) (W.heap.size + 1) (by simp) ?_
  · intro j y hy
    match j, hy with
    | 0, hy =>
      simp at hy
      subst hy
      simp [Addr.add]
  · intro y hy
    simp at hy
    subst hy
    exact hu
  · intro g cap w' h1 h2 hat _
    refine hK _ _ ⟨by simpa using h1⟩ ⟨h2.os, h2.tape, h2.output, ?_, fun k hk hn => ?_⟩ (fun g' hg' => ?_)
    · have := h2.size
      simp at this
      omega
    · rw [h2.block k (by simp; omega) (fun e => hn (by rw [← e]; simp))]
      exact Below.heap_alloc W _ k hk
    · simp [Value.ownBlock] at hg'
      subst hg'
      rcases hat with h3 | h3
      · exact .inl h3
      · exact .inr (by omega)

/-- nothing appended to nothing. -/
theorem wpList_append_nil {w : World} {ops : Array Oper} {rest : List Oper} {o : Oper} {a : Act} {Q : Exit → Act → World → Prop} (hgd : o.guard = none) (s x : Operand) (t : TypeId)
    (ho : o.op = .call { callee := .builtin .append, args := #[s, x], argTypes := #[t, t] })
    (e : TypeId) (i : TypeInfo) (ht : Try.prog.underlying t = some (.slice e)) (hi : Try.prog.info? e = some i)
    (A : Option Addr) (c : Nat) (hs : a.eval s = .slice none 0 0) (hx : a.eval x = .slice A 0 c)
    (h : wpList Try.prog ops Q rest (a.put o.dst (.slice none 0 0)) w) : wpList Try.prog ops Q (o :: rest) a w := by
  refine wpList_plain hgd fun K hK => ?_
  have hrun : (Builtin.append_ #[t, t] o.type #[.slice none 0 0, .slice A 0 c]).run Try.prog w = .ok (.slice none 0 0) w := by
    cases A <;> simp [Builtin.append_, run_underlying ht, sizeOf, typeInfo, hi, Builtin.lenOf, Builtin.firstCells, loadCells, loadCellsFrom]
  unfold Oper.wp
  simp [execOp, ho, resolve, invoke, builtin, hs, hx, hrun, Result.andThen]
  exact hK _ _ h

/-- the law's own numbers, appended to by whatever there is. -/
theorem wpList_held {P : SP} {r B : Nat} {s0 : SSt} {W : World} {hv : Value} {xs ys : List Int} {A : Option Addr} {c : Nat} {ops : Array Oper} {rest : List Oper} {o : Oper} {a : Act} {Q : Exit → Act → World → Prop} (hG : P.Good) (hi : SI P r s0 W) (h : LRow P B hv xs W) (hB : B ≤ W.heap.size) (hgd : o.guard = none) (s x : Operand) (ho : o.op = .call { callee := .builtin .append, args := #[s, x], argTypes := #[31, 31] })
    (hs : a.eval s = hv) (hx : a.eval x = .slice A ys.length c) (hr : Row W .i64 A ys.length ys) (hl : xs.length + ys.length ≤ 10000)
    (hK : ∀ v' w', LRow P B v' (xs ++ ys) w' → Turns hv.ownBlock.toList W w' → (∀ g, v'.ownBlock = some g → hv.ownBlock = some g ∨ W.heap.size ≤ g) → wpList Try.prog ops Q rest (a.put o.dst v') w') : wpList Try.prog ops Q (o :: rest) a W := by
  obtain ⟨i0, hi0, hz0, hz1, hz2⟩ := info_parts int_info4
  by_cases hn : ys.length = 0
  · obtain rfl := List.length_eq_zero_iff.1 hn
    rw [List.append_nil] at hK
    have hgo := hK hv W h (Turns.refl _ _) (fun g hg => .inl hg)
    obtain ⟨A', c', e, hle⟩ := own_slice h.row.own
    rcases h.row.own.2 with ⟨h0, _⟩ | ⟨g, cap, cur, h0, _⟩
    · rw [h0] at hs hgo
      exact wpList_append_nil hgd s x 31 ho 3 i0 Try.underlying31 hi0 A c hs hx hgo
    · rw [h0] at hs hgo e
      injection e with _ _ e3
      exact wpList_append_zero hgd s x 31 ho 3 i0 Try.underlying31 hi0 ⟨g, 0, none⟩ _ cap A c (by rw [e3]; exact hle) hs hx hgo
  · obtain ⟨ad, rfl, hab, hcell⟩ := hr.at_ (by omega)
    refine wpList_append_lies _ hgd s x 31 ho B 3 i0 _ 1 8 Try.underlying31 hi0 hz0 hz1 hz2 rfl (by omega) hv xs.length (xs.map (Value.int .i64)) hs h.row.own ad ys.length c (ys.map (Value.int .i64)) hx (by simp) ?_ ?_ (by omega) (by simp only [maxLen]; omega) (by omega) hB W.heap.size rfl ?_
    · intro j u hu
      rw [List.getElem?_map] at hu
      obtain ⟨y, hy, rfl⟩ := Option.map_eq_some_iff.1 hu
      have hj : j < ys.length := (List.getElem?_eq_some_iff.1 hy).1
      rw [hcell j hj]
      simp [List.getD, hy]
    · intro u hu
      obtain ⟨j, _, rfl⟩ := List.mem_map.1 hu
      rfl
    · intro g cap w' h1 h2 hat _
      have hat' : hv.ownBlock = some g ∨ W.heap.size ≤ g := hat.imp id fun h => by omega
      obtain ⟨l2, t2⟩ := h.grow hG hi (ys := xs ++ ys) (by rw [List.map_append]; exact h1) (by simp) (h.row.ints.app hr.wf) h2 hat'
      exact hK _ _ l2 t2 fun g' hg' => by
        simp [Value.ownBlock] at hg'
        subst hg'
        exact hat'

/-- how far tasks have come: each is picked 78 times, one behind the other. -/
def Fin8 (P : SP) (N np m : Nat) (q : Nat → SPr) (l : List Int) : Prop :=
  np ≤ m → (∀ j, j < N → j < (m - np) / 78 → (SM P).ended (q j) = true) ∧ (∀ j, j < N → j = (m - np) / 78 → (SM P).ended (q j) = true ∨ mu (q j) l + (m - np) % 78 ≤ 41)
theorem endsL_at : ∀ (n e : Nat), e < 78 * n → (endsL n).getD e 0 = ((e / 78 : Nat) : Int)
  | 0, e, h => by omega
  | n + 1, e, h => by
    rw [endsL_succ]
    have hl := endsL_len n
    by_cases h1 : e < 78 * n
    · have h2 := endsL_at n e h1
      simp only [List.getD] at h2 ⊢
      rw [List.getElem?_append_left (by omega)]
      exact h2
    · simp only [List.getD]
      rw [List.getElem?_append_right (by omega), hl, List.getElem?_replicate, if_pos (by omega)]
      have : e / 78 = n := by omega
      simp [this]
section
variable {P : SP} {N np m : Nat} {q : Nat → SPr} {l l' : List Int}
theorem Fin8.start (h : ∀ j, j < N → (q j).l.length ≤ 12) : Fin8 P N np np q l := fun _ => ⟨fun j _ h2 => by omega, fun j hj _ => .inr (by have := mu_le (q j) l; have := h j hj; omega)⟩
/-- a pick that does nothing. -/
theorem Fin8.idle (h : Fin8 P N np m q l) (hl : ∀ j, j < N → (q j).l.length ≤ 12) (he : np ≤ m → (m - np) / 78 < N → (SM P).ended (q ((m - np) / 78)) = true) : Fin8 P N np (m + 1) q l := fun hm => by
  by_cases h0 : np ≤ m
  · obtain ⟨h1, h2⟩ := h h0
    refine ⟨fun j hj hlt => ?_, fun j hj e => ?_⟩
    · by_cases h3 : j < (m - np) / 78
      · exact h1 j hj h3
      · have e : j = (m - np) / 78 := by omega
        subst e
        exact he h0 hj
    · by_cases h3 : j = (m - np) / 78
      · subst h3; exact .inl (he h0 hj)
      · exact .inr (by have := mu_le (q j) l; have := hl j hj; omega)
  · have : m + 1 = np := by omega
    rw [this]
    exact Fin8.start hl (Nat.le_refl _)
/-- a step of the one that is picked. -/
theorem Fin8.step (h : Fin8 P N np m q l) (hl : ∀ j, j < N → (q j).l.length ≤ 12) {j : Nat} {q' : SPr} (hj : j < N) (hq : q'.l.length ≤ 12) (hp : np ≤ m → j = (m - np) / 78) (hne : (SM P).ended (q j) = false) (hmu : mu q' l' + 1 ≤ mu (q j) l) : Fin8 P N np (m + 1) (updF q j q') l' := fun hm => by
  by_cases h0 : np ≤ m
  · obtain ⟨h1, h2⟩ := h h0
    have hj0 := hp h0
    have h3 := h2 j hj hj0
    rw [hne] at h3
    have h4 : mu (q j) l + (m - np) % 78 ≤ 41 := by simpa using h3
    refine ⟨fun i hi hlt => ?_, fun i hi e => ?_⟩
    · have : i ≠ j := by omega
      rw [updF_ne _ _ this]
      exact h1 i hi (by omega)
    · by_cases e2 : i = j
      · subst e2
        rw [updF_same]
        exact .inr (by omega)
      · omega
  · have : m + 1 = np := by omega
    rw [this]
    refine Fin8.start (fun i hi => ?_) (Nat.le_refl _)
    by_cases e : i = j
    · subst e; rw [updF_same]; exact hq
    · rw [updF_ne _ _ e]; exact hl i hi
theorem sk_k (s : SSt) (q : SPr) : (skStep P q s).2.k ≤ s.k + 1 := by
  have st : ∀ (j : Nat) (l : List Bool) (s : SSt), (startS j l s).2.k = s.k := by
    intro j l
    induction l with
    | nil => intro s; rfl
    | cons b l ih =>
      intro s
      cases b with
      | true => rfl
      | false =>
        show (match (s.hs j).getLast? with | none => startS j l s | some i => (⟨j, .pushR i, l⟩, s)).2.k = s.k
        cases (s.hs j).getLast? with
        | none => exact ih s
        | some i => rfl
  obtain ⟨j, m, l⟩ := q
  cases m with
  | done => show s.k ≤ _; omega
  | popR =>
    unfold skStep
    dsimp only
    split
    · rw [st]; exact moreA_up _ _ _
    · exact moreA_up _ _ _
  | popN o => exact moreA_up _ _ _
  | popT o y =>
    unfold skStep
    dsimp only
    split
    · rw [st]; exact moreA_up _ _ _
    · exact moreA_up _ _ _
  | pushR i => exact moreA_up _ _ _
  | pushS i o => exact moreA_up _ _ _
  | pushT i o =>
    unfold skStep
    dsimp only
    split
    · rw [st]; exact moreA_up _ _ _
    · exact moreA_up _ _ _
end

end Go.Proofs.Ythjbmaeoogophaa

/- Layer 8: StackMany's loops: things are laid, tasks are made. -/
namespace Go.Proofs.Ythjbmaeoogophaa
open Go.RowKit Go.ChangeShapes Go.WideShapes
set_option maxRecDepth 100000

/-- while the first worker's hands are filled. -/
structure FillM (w0 : World) (P : SP) (bx B0 k m : Nat) (pv : Value) (W : World) : Prop where
  si : ∃ s, SI P 2000 s W ∧ s.hs 0 = upto m ∧ s.l = List.replicate (k + 1) 0 ∧ s.wr 0 = false ∧ s.k = 0
  box : (SM P).Bx W bx 27 (stC P)
  puts : VRow W B0 4 pv ((List.replicate m false).map Value.bool)
  le : m ≤ k
  be : Below B0 w0 W

/-- while tasks are made: workers beside them. -/
structure Mm (w0 : World) (p bx B0 k r t T : Nat) (tv wv : Value) (W : World) : Prop where
  at_ : ∃ (P : SP) (ts : Nat → Nat) (qs : Nat → SPr) (s : SSt), Mk P r r ts qs s W ∧ P.nw = t ∧ P.n = k ∧ P.B = B0 ∧ P.p = p ∧ (SM P).Bx W bx 27 (stC P) ∧ VRow W B0 35 tv ((List.range t).map fun i => ptr (ts i)) ∧ VRow W B0 30 wv ((List.range t).map fun i => ptr (P.wb i)) ∧ (∀ g, wv.ownBlock = some g → g ∈ P.ex) ∧ Inv8 P t ⟨s, qs, fun _ => 0, 0⟩ ∧ Gl k t T qs s (upto k)
  be : Below B0 w0 W

theorem Mm.start {w0 W : World} {p c bx B0 k r T : Nat} {l : List Int} {kk : Int} {q : Nat → SPr} {s : SSt} (ha : Arena W p c l kk) (hg : Gl k 1 T q s (upto k)) (hl : s.l = l) (h1 : B0 ≤ p) (h2 : B0 ≤ c) (h3 : p ≠ c) (hk : k ≤ 1000) (hkk : kk + r ≤ 4611686018427387904) (hb : Lies W bx 27 (chC p 0 38 #[])) (be : Below B0 w0 W) : Mm w0 p bx B0 k r 0 T (.slice none 0 0) (.slice none 0 0) W := by
  subst hl
  have hL : (⟨p, c, B0, k, 0, fun _ => 0, fun _ => none, []⟩ : SP).L = [p, c] := rfl
  have hws : (⟨p, c, B0, k, 0, fun _ => 0, fun _ => none, []⟩ : SP).ws = [] := rfl
  have hperm : (upto k ++ allH 0 (fun _ => [])).Perm (upto k) := by simp [allH]
  refine ⟨⟨⟨p, c, B0, k, 0, fun _ => 0, fun _ => none, []⟩, fun _ => 0, fun _ => ⟨0, .done, []⟩, ⟨s.l, kk, fun _ => [], fun _ => [], fun _ => false, fun _ => false, fun _ => false⟩, ⟨⟨⟨h1, h2, fun j hj => absurd hj (Nat.not_lt_zero _), fun j g hj => absurd hj (Nat.not_lt_zero _)⟩, fun i j hi => absurd hi (Nat.not_lt_zero _), fun i j g hi => absurd hi (Nat.not_lt_zero _), ⟨h3, fun j hj => absurd hj (Nat.not_lt_zero _), fun j g hj => absurd hj (Nat.not_lt_zero _), fun i j g hi => absurd hi (Nat.not_lt_zero _)⟩, hk⟩, fun j hj => rfl, fun b hb => (by cases hb), ⟨ha, hkk, hg.ok, fun j hj => absurd hj (Nat.not_lt_zero _), fun j g hj => absurd hj (Nat.not_lt_zero _), fun j hj => absurd hj (Nat.not_lt_zero _), fun j hj => absurd hj (Nat.not_lt_zero _), fun a b h => (by rw [hws] at h; cases h), fun b hb => (by cases hb)⟩, fun j hj => absurd hj (Nat.not_lt_zero _), fun i j hi => absurd hi (Nat.not_lt_zero _), fun _ => rfl⟩, rfl, rfl, rfl, rfl, ⟨hb, fun hm => ?_, fun q => ?_, by decide, fun hm => (by cases hm)⟩, VRow.nil _ _ _, VRow.nil _ _ _, fun g hg => (by cases hg), ⟨by have := hg.ok.len; show 0 < s.l.length; omega, fun i hi => absurd hi (Nat.not_lt_zero _), fun i hi => absurd hi (Nat.not_lt_zero _), fun i hi => absurd hi (Nat.not_lt_zero _), fun i hi => absurd hi (Nat.not_lt_zero _), fun i hi => absurd hi (Nat.not_lt_zero _)⟩, ⟨hg.ok, hg.ch, hperm, hg.cnt, fun j hj => absurd hj (Nat.not_lt_zero _), fun j hj => absurd hj (Nat.not_lt_zero _), fun j hj => absurd hj (Nat.not_lt_zero _), hg.fit⟩⟩, be⟩
  · have hm : bx ∈ [p, c] := hm
    simp at hm
    rcases hm with rfl | rfl
    · exact hb.unlike ha.head (by decide) rfl
    · exact hb.unlike ha.body (by decide) rfl
  · obtain ⟨a, ha, _⟩ := q
    have ha : a ∈ ([] : List Addr) := ha
    cases ha

section
variable {P : SP} {w0 W wa wc W2 W4 : World} {p bx B0 k r T : Nat} {ts : Nat → Nat} {qs : Nat → SPr} {s : SSt} {cv tv tv' wv wv' : Value} {ex : List Nat}
theorem Mm.next (h : Mk P r r ts qs s W) (hn : P.n = k) (hB : P.B = B0) (hp : P.p = p) (hbox : (SM P).Bx W bx 27 (stC P)) (hv : VRow W B0 35 tv ((List.range P.nw).map fun i => ptr (ts i))) (hwx : ∀ g, wv.ownBlock = some g → g ∈ P.ex) (hwv : VRow W B0 30 wv ((List.range P.nw).map fun i => ptr (P.wb i))) (hinv : Inv8 P P.nw ⟨s, qs, fun _ => 0, 0⟩) (hgl : Gl k P.nw T qs s (upto k)) (be : Below B0 w0 W)
    (k1 : Turns wv.ownBlock.toList W wc) (hexn : ∀ g, g ∈ ex → W.heap.size ≤ g) (hl : Lies wc W.heap.size 34 #[.slice none 0 0, .pointer none, .bool false, .bool false, .bool false]) (hwv' : VRow wc B0 30 wv' ((List.range P.nw).map (fun i => ptr (P.wb i)) ++ [ptr W.heap.size])) (hwx' : ∀ g, wv'.ownBlock = some g → g ∈ P.ex ∨ g ∈ ex) (hG1 : (P.one W.heap.size ex).Good) (hi1 : SI (P.one W.heap.size ex) r (s.add P.nw []) wc)
    (l : List Bool) (h12 : l.length ≤ 12) (f2 : Fr (P.one W.heap.size ex).L (P.one W.heap.size ex).ws wc W2) (hi2 : SI (P.one W.heap.size ex) r (startS P.nw l (s.add P.nw [])).2 W2) (hc2 : ∀ x : More, ((P.one W.heap.size ex).up x).Good → x.From W2.heap.size → (SM ((P.one W.heap.size ex).up x)).Code r (startS P.nw l (s.add P.nw [])).1 cv W2)
    (hv4 : VRow W4 B0 35 tv' ((List.range P.nw).map (fun i => ptr (ts i)) ++ [ptr W2.heap.size])) (t4 : Turns tv.ownBlock.toList (W2.alloc (.cells #[cv, .int .i64 0] 89)) W4) : Mm w0 p bx B0 k r (P.nw + 1) T tv' wv' W4 := by
  have hK1 : ∀ g, g ∈ wv.ownBlock.toList → g ∈ P.ex ∧ ∃ cs, Lies W g 30 cs := fun g hg => by
    obtain ⟨_, cur, hl⟩ := hwv.lies (g := g) (by simpa using hg)
    exact ⟨hwx g (by simpa using hg), cur, hl⟩
  have ms := Ms.next h hn hB hp hbox hv hinv be k1 hK1 hexn hl (fun g hg => (by cases hg)) (hs := []) (fun i hi => (by cases hi)) hG1 hi1 l h12 f2 hi2 hc2 hv4 t4
  -- the parts of it that are wanted by name
  obtain ⟨g1, g2, g3, g4, _, g6, _, g8⟩ := startS_facts P.nw l (s.add P.nw [])
  have k3 : Turns [] W2 (W2.alloc (.cells #[cv, .int .i64 0] 89)) := (Turns.refl _ _).alloc _
  have l3 : Lies (W2.alloc (.cells #[cv, .int .i64 0] 89)) W2.heap.size 89 #[cv, .int .i64 0] := Lies.new _ _ _
  have hvc := hv.turns k1 (fun g hg hm => by
    obtain ⟨_, cur, hl⟩ := hv.lies hg
    obtain ⟨_, cs, hl2⟩ := hK1 g hm
    exact hl.unlike hl2 (by decide) rfl)
  have hv2 : VRow W2 B0 35 tv _ := hvc.frE hi1 f2 (by decide) (by decide) (by decide) (by decide) (.inl (by decide))
  have hv3 := hv2.turns k3 (by simp)
  have hw2 : VRow W2 B0 30 wv' _ := hwv'.frE hi1 f2 (by decide) (by decide) (by decide) (by decide) (.inl (by decide))
  have hw3 := hw2.turns k3 (by simp)
  have hw4 := hw3.turns t4 (fun g hg hm => by
    obtain ⟨_, cur, hl⟩ := hw3.lies hg
    obtain ⟨_, cs, hl2⟩ := hv3.lies (g := g) (by simpa using hm)
    exact hl.unlike hl2 (by decide) rfl)
  have hcell : wc.cell? ⟨W.heap.size, 0, none⟩ = some (.slice none 0 0) := hl.cell 0
  have hK : ∀ g, g ∈ tv.ownBlock.toList → P.B ≤ g ∧ ∃ cs, Lies (W2.alloc (.cells #[cv, .int .i64 0] 89)) g 35 cs := fun g hg => by
    obtain ⟨h1, cur, h2⟩ := hv3.lies (g := g) (by simpa using hg)
    exact ⟨by omega, cur, h2⟩
  have mk := h.next (Nat.le_refl _) hexn k1 hK1 hG1 hi1 hcell (fun g hg => (by cases hg)) f2 hi2 hc2 (fun j => by rw [g4]; exact h.gt j) k3 l3 (Nat.le_refl _) t4 hK
  have hgl4 : Gl k (P.nw + 1) T (updF qs P.nw (startS P.nw l (s.add P.nw [])).1) (startS P.nw l (s.add P.nw [])).2 (upto k) := hgl.more (s.add P.nw []) rfl rfl rfl
  -- Ms.next's own box and invariant, for the same machine
  have hbox4 : (SM (P.one W.heap.size ex)).Bx W4 bx 27 (stC (P.one W.heap.size ex)) := by
    have hKL1 : ∀ g, g ∈ wv.ownBlock.toList → g ∉ P.L := fun g hg => by
      obtain ⟨_, cs, hl⟩ := hK1 g hg
      exact (h.si.apart_ty hl (by decide) (by decide) (by decide) (by decide) (.inl (by decide))).1
    have box1 := Gm.Bx.one h.si h.good hbox (Nat.le_refl _) hexn k1 hKL1 (fun hm => by
      obtain ⟨_, cs, hl2⟩ := hK1 _ hm
      exact hbox.l.unlike hl2 (by decide) rfl) hcell (fun g hg => (by cases hg))
    have hM1 := sm_ok _ hG1
    have box2 := box1.mv f2.mv
    have box3 := box2.mv ((hM1.okw _ _ _ hi2).mv hM1 k3)
    have hi3 := hi2.turns k3 (by simp)
    exact Gm.Bx.turns hG1 hi3 box3 t4 (fun g hg => by
      obtain ⟨_, cs, h2⟩ := hK g hg
      exact (hi3.apart_ty h2 (by decide) (by decide) (by decide) (by decide) (.inl (by decide))).1) (fun hg => by
      obtain ⟨_, cs, h2⟩ := hK _ hg
      exact h2.unlike box3.l (by decide) rfl)
  have hh : ∀ i, i < P.nw → (startS P.nw l (s.add P.nw [])).2.hs i = s.hs i := fun i hi => by rw [g3]; exact updF_ne _ _ (by omega)
  have hhn : (startS P.nw l (s.add P.nw [])).2.hs P.nw = [] := by rw [g3]; exact updF_same _ _ _
  have hinv4 : Inv8 (P.one W.heap.size ex) (P.nw + 1) ⟨(startS P.nw l (s.add P.nw [])).2, updF qs P.nw (startS P.nw l (s.add P.nw [])).1, fun _ => 0, 0⟩ := by
    refine ⟨by show 0 < (startS P.nw l (s.add P.nw [])).2.l.length; rw [g2]; exact hinv.len, fun i hi => ?_, fun i hi => ?_, fun i hi => ?_, fun i hi => ?_, fun i hi => ?_⟩
    · show (updF qs P.nw _ i).j = i
      rcases (by omega : i < P.nw ∨ i = P.nw) with h1 | rfl
      · rw [updF_ne _ _ (by omega)]; exact hinv.j i h1
      · rw [updF_same]; exact g1
    · show qok (updF qs P.nw _ i)
      rcases (by omega : i < P.nw ∨ i = P.nw) with h1 | rfl
      · rw [updF_ne _ _ (by omega)]; exact hinv.ok i h1
      · rw [updF_same]; exact g8 (fun y hy => by
          have hy : y ∈ updF s.hs P.nw [] P.nw := hy
          rw [updF_same] at hy
          cases hy)
    · show ∀ y, y ∈ (startS P.nw l (s.add P.nw [])).2.hs i → 0 ≤ y
      rcases (by omega : i < P.nw ∨ i = P.nw) with h1 | rfl
      · rw [hh i h1]; exact hinv.hs i h1
      · rw [hhn]; exact fun y hy => (by cases hy)
    · show (SM P).W (updF qs P.nw _ i) _
      rcases (by omega : i < P.nw ∨ i = P.nw) with h1 | rfl
      · rw [updF_ne _ _ (by omega)]
        exact W_hs (hinv.w i h1) (by rw [hinv.j i h1]; exact hh i h1)
      · rw [updF_same]; exact W_start _ _ _
    · show (updF qs P.nw _ i).l.length ≤ 12
      rcases (by omega : i < P.nw ∨ i = P.nw) with h1 | rfl
      · rw [updF_ne _ _ (by omega)]; exact hinv.l i h1
      · rw [updF_same]; omega
  refine ⟨⟨P.one W.heap.size ex, _, _, _, mk, rfl, hn, hB, hp, hbox4, ?_, ?_, fun g hg => ?_, hinv4, hgl4⟩, ms.be⟩
  · rw [List.range_succ, List.map_append]
    have e : (List.range P.nw).map (fun i => ptr (updF ts P.nw W2.heap.size i)) = (List.range P.nw).map (fun i => ptr (ts i)) := List.map_congr_left fun i hi => by
      have := List.mem_range.1 hi
      rw [updF_ne _ _ (by omega)]
    rw [e, List.map_singleton, updF_same]
    exact hv4
  · rw [List.range_succ, List.map_append]
    have e : (List.range P.nw).map (fun i => ptr ((P.one W.heap.size ex).wb i)) = (List.range P.nw).map (fun i => ptr (P.wb i)) := List.map_congr_left fun i hi => by
      rw [SP.one_old (List.mem_range.1 hi)]
    rw [e, List.map_singleton, SP.one_new]
    exact hw4
  · exact List.mem_append.2 (hwx' g hg)
end

end Go.Proofs.Ythjbmaeoogophaa

/- Layer 8: StackMany's main loop: what holds there. -/
namespace Go.Proofs.Ythjbmaeoogophaa
open Go.RowKit Go.ChangeShapes Go.WideShapes
set_option maxRecDepth 100000
/-- the first worker lays all down. -/
theorem first_lays {P : SP} {k : Nat} (hn : k ≤ 13) (s : SSt) (hh : s.hs 0 = upto k) (hl : s.l = List.replicate (k + 1) 0) (hw : s.wr 0 = false) (hf : ∀ i, N64 (getA s.l i)) {R : SPr × SSt} (hR : startS 0 (List.replicate k false) s = R) :
    (SM P).ended ((SM P).runN R.1 R.2 0 200).1 = true ∧ ∃ q, Gl k 1 200 (fun _ => q) ((SM P).runN R.1 R.2 0 200).2.1 (upto k) := by
  have hone : One k s.l (s.hs 0) [] := by rw [hh, hl]; exact one_start k
  obtain ⟨a1, a2, a3, _⟩ := act_run (P := P) (j := 0) (n := k) (by omega) (List.replicate k false) s [] hone 0 200 (by simp; omega)
  have e1 := (back_all k k (Nat.le_refl _)).1.1
  rw [hh, e1, hR] at a2
  rw [hR] at a1
  obtain ⟨g1, g2, g3, _, g5, _, _, _⟩ := startS_facts 0 (List.replicate k false) s
  have hwk := Wk.start (n := k) (j := 0) (List.replicate k false) s
  have hnp := NoPop.start (j := 0) (List.replicate k false) s (fun b hb => (List.mem_replicate.1 hb).2)
  rw [hR] at g1 g2 g3 g5 hwk hnp
  have hg0 : Gl k 1 0 (fun _ => R.1) R.2 [] := by
    refine ⟨by rw [g2]; exact hone.ok, by rw [g2]; exact hone.ch, ?_, ?_, fun j hj => ?_, fun j hj => ?_, fun j hj => ?_, fun i => by rw [g2]; exact hf i⟩
    · rw [g3]
      simp [allH, hh]
    · rw [g2, hl]
      show hCt (getA (List.replicate (k + 1) 0) 0) ≤ 0
      rw [getA_zero]
      decide
    · obtain rfl : j = 0 := by omega
      exact hwk
    · obtain rfl : j = 0 := by omega
      exact g1
    · obtain rfl : j = 0 := by omega
      rw [g5]
      exact hw
  obtain ⟨⟨ts', h1⟩, _⟩ := Gl.runs (P := P) (d := 0) hg0 hnp (by omega) 200 (by omega)
  have e2 := h1.told (by omega)
  rw [a2.told (by omega)] at e2
  rw [← e2] at h1
  exact ⟨a1, _, by simpa using h1⟩

section
variable {P : SP} {r B bx B0 k np T m : Nat} {ts : Nat → Nat} {s s' : SSt} {qs : Nat → SPr} {d : Nat → Nat} {W W' W2 W3 : World} {tv wv pv : Value} {ps : List Int}
/-- tasks lie. -/
def Tk (P : SP) (ts : Nat → Nat) (W : World) : Prop := ∀ i, i < P.nw → ∃ v, Lies W (ts i) 89 v
theorem VRow.frT {E : TypeId} {v : Value} {vs : List Value} (x : VRow W B E v vs) (hi : SI P r s W) (ht : Tk P ts W) (f : Fr (tsL P.nw ts ++ P.L) P.ws W W') (h1 : E ≠ 101) (h2 : E ≠ 111) (h3 : E ≠ 34) (h4 : E ≠ 3) (h5 : E ≠ 31) (h6 : E ≠ 89) : VRow W' B E v vs :=
  x.kept fun g hg => by
    obtain ⟨_, cur, hl⟩ := x.lies hg
    have h := hi.apart_ty hl h1 h2 h3 h4 (.inl h5)
    refine f.block g hl.lt (fun hm => (List.mem_append.1 hm).elim (fun q => ?_) h.1) h.2
    obtain ⟨i, hi, e⟩ := tsL_mem.1 q
    obtain ⟨v', hv'⟩ := ht i hi
    exact hl.unlike hv' h6 e.symm
theorem LRow.frT {v : Value} {xs : List Int} (h : LRow P B v xs W) (ht : Tk P ts W) (f : Fr (tsL P.nw ts ++ P.L) P.ws W W') : LRow P B v xs W' :=
  ⟨h.row.kept fun g hg => f.block g (h.row.lt g hg).2 (fun hm => (List.mem_append.1 hm).elim (fun q => by
    obtain ⟨i, hi, e⟩ := tsL_mem.1 q
    obtain ⟨v', hv'⟩ := ht i hi
    rcases h.row.own.2 with ⟨h0, _⟩ | ⟨g', cap, cur, h0, _, hl, _⟩
    · rw [h0] at hg; cases hg
    · rw [h0] at hg
      have hg : g' = g := by simpa [Value.ownBlock] using hg
      have hl : Lies W g' 3 cur := hl
      exact hl.unlike hv' (by decide) (hg.trans e.symm)) (h.out g hg).1) (h.out g hg).2, fun g hg => ⟨(h.out g hg).1, f.row (h.row.lt g hg).2 (h.out g hg).2⟩⟩

/-- what lies beside the state: the stack, the tasks, the workers, the picks. -/
structure Lr (P : SP) (bx B0 : Nat) (ts : Nat → Nat) (tv wv pv : Value) (ps : List Int) (W : World) : Prop where
  box : (SM P).Bx W bx 27 (stC P)
  tv : VRow W B0 35 tv ((List.range P.nw).map fun i => ptr (ts i))
  wv : VRow W B0 30 wv ((List.range P.nw).map fun i => ptr (P.wb i))
  pv : LRow P B0 pv ps W
theorem Lr.fr (h : Lr P bx B0 ts tv wv pv ps W) (hi : SI P r s W) (ht : Tk P ts W) (f : Fr (tsL P.nw ts ++ P.L) P.ws W W') : Lr P bx B0 ts tv wv pv ps W' :=
  ⟨⟨f.lies h.box.l (fun hm => (List.mem_append.1 hm).elim (fun q => by
      obtain ⟨i, hi, e⟩ := tsL_mem.1 q
      obtain ⟨v', hv'⟩ := ht i hi
      exact h.box.l.unlike hv' (by decide) e.symm) h.box.out) h.box.row, h.box.out, f.row h.box.l.lt h.box.row, h.box.ty, h.box.outX⟩,
    h.tv.frT hi ht f (by decide) (by decide) (by decide) (by decide) (by decide) (by decide),
    h.wv.frT hi ht f (by decide) (by decide) (by decide) (by decide) (by decide) (by decide),
    h.pv.frT ht f⟩
/-- workers' slice, as bare() gets it. -/
theorem Lr.wrow {A : Option Addr} {cp : Nat} (h : Lr P bx B0 ts tv (.slice A P.nw cp) pv ps W) (hi : SI P r s W) : 0 < P.nw → ∃ g, A = some ⟨g, 0, none⟩ ∧ g ∉ P.L ∧ ¬ Rw P.ws W g ∧ g < W.heap.size ∧ WRow P g P.nw W := by
  obtain ⟨A', cp', h1, _, h2⟩ := h.wv.slice
  have hl : ((List.range P.nw).map fun i => ptr (P.wb i)).length = P.nw := by simp
  rw [hl] at h1 h2
  injection h1 with h1 _ _
  subst h1
  intro hn
  obtain ⟨g, h3, h4, h5⟩ := h2 hn
  obtain ⟨_, cur, hlg⟩ := h.wv.lies h4
  have ha := hi.apart_ty hlg (by decide) (by decide) (by decide) (by decide) (.inl (by decide))
  exact ⟨g, h3, ha.1, ha.2, hlg.lt, fun i hi => h5 i _ (by simp [hi])⟩
theorem Lr.turns (hG : P.Good) (hi : SI P r s W) (h : Lr P bx B0 ts tv wv pv ps W) (t : Turns [] W W') : Lr P bx B0 ts tv wv pv ps W' :=
  ⟨Gm.Bx.turns hG hi h.box t (by simp) (by simp), h.tv.turns t (by simp), h.wv.turns t (by simp), LRow.turns hG hi h.pv t (by simp) (by simp)⟩
theorem Lr.prow {A : Option Addr} {n cp : Nat} (h : Lr P bx B0 ts tv wv (.slice A n cp) ps W) : n = ps.length ∧ Row W .i64 A ps.length ps := by
  obtain ⟨A', cp', h1, h2⟩ := h.pv.row.row
  injection h1 with h1 h3 _
  subst h1
  exact ⟨h3, h2⟩

/-- the state and the tasks, with m picks done. -/
structure Lx (P : SP) (k np T : Nat) (ts : Nat → Nat) (m r : Nat) (s : SSt) (qs : Nat → SPr) (d : Nat → Nat) (W : World) : Prop where
  all : (SM P).All r P.nw ts ⟨s, qs, d, 0⟩ W
  inv : Inv8 P P.nw ⟨s, qs, d, 0⟩
  gl : ∃ tl, Gl k P.nw (T + m) qs s tl
  fin : Fin8 P P.nw np m qs s.l
  d : ∀ i, i < P.nw → d i ≤ m
  inj : ∀ i j, i < P.nw → j < P.nw → ts i = ts j → i = j
theorem Lx.si (h : Lx P k np T ts m r s qs d W) : SI P r s W := h.all.inv
theorem Lx.tk (h : Lx P k np T ts m r s qs d W) : Tk P ts W := fun i hi => by
  obtain ⟨v, hv, _⟩ := (h.all.tk i hi).at_
  exact ⟨_, hv⟩
/-- who writes nothing but the workers' marks. -/
theorem Lx.bare (h : Lx P k np T ts m r s qs d W) (hi : SI P r s' W') (e1 : s'.l = s.l) (e2 : s'.hs = s.hs) (e3 : s'.wr = s.wr) (f : Fr P.L P.ws W W') : Lx P k np T ts m r s' qs d W' := by
  obtain ⟨tl, hg⟩ := h.gl
  refine ⟨⟨fun i hi => ?_, hi⟩, ⟨by show 0 < s'.l.length; rw [e1]; exact h.inv.len, h.inv.j, h.inv.ok, fun i hi => by show ∀ y, y ∈ s'.hs i → _; rw [e2]; exact h.inv.hs i hi, fun i hi => W_hs (h.inv.w i hi) (by show s'.hs _ = s.hs _; rw [e2]), h.inv.l⟩, ⟨tl, hg.same e1 e2 e3⟩, by rw [e1]; exact h.fin, h.d, h.inj⟩
  have t := h.all.tk i hi
  exact t.keep (f.block _ t.lt t.out t.row) f.mv
theorem Lx.turns (hG : P.Good) (h : Lx P k np T ts m r s qs d W) (t : Turns [] W W') : Lx P k np T ts m r s qs d W' := by
  have hM := sm_ok P hG
  have f := (hM.okw _ _ _ h.si).fr hM t
  refine ⟨⟨fun i hi => ?_, h.si.turns t (by simp)⟩, h.inv, h.gl, h.fin, h.d, h.inj⟩
  have q := h.all.tk i hi
  exact q.keep (f.block _ q.lt q.out q.row) f.mv
theorem Lx.below (hG : P.Good) (h : Lx P k np T ts m r s qs d W) (f : Fr (tsL P.nw ts ++ P.L) P.ws W W') : Below P.B W W' :=
  SI.below hG h.si (fun b hb => (List.mem_append.1 hb).elim (fun q => by
    obtain ⟨i, hi, rfl⟩ := tsL_mem.1 q
    exact .inr (h.all.tk i hi).base) .inl) f
theorem Lx.start {k : Nat} (h : Mk P r r ts qs s W) (hv : Inv8 P P.nw ⟨s, qs, fun _ => 0, 0⟩) (hg : Gl k P.nw T qs s (upto k)) : Lx P k np T ts 0 r s qs (fun _ => 0) W :=
  ⟨⟨fun i hi => h.task hi, h.si⟩, hv, ⟨_, hg⟩, fun hm => by
    obtain rfl : np = 0 := by omega
    exact Fin8.start hv.l (Nat.le_refl _), fun _ _ => Nat.le_refl _, h.inj⟩
theorem Lx.trow (h : Lx P k np T ts m r s qs d W) {A : Option Addr} {cp : Nat} (hr : Lr P bx B0 ts (.slice A P.nw cp) wv pv ps W) (h5 : P.nw ≤ 5) : (SM P).TRow W A P.nw ts := by
  obtain ⟨A', cp', h1, _, h2⟩ := hr.tv.slice
  have hl : ((List.range P.nw).map fun i => ptr (ts i)).length = P.nw := by simp
  rw [hl] at h1 h2
  injection h1 with h1 _ _
  subst h1
  refine ⟨by simp only [maxLen]; omega, h.inj, fun hn => ?_⟩
  obtain ⟨g, rfl, h3, h4⟩ := h2 hn
  obtain ⟨_, cur, hlg⟩ := hr.tv.lies h3
  have ha := h.si.apart_ty hlg (by decide) (by decide) (by decide) (by decide) (.inl (by decide))
  refine ⟨_, rfl, hlg.lt, ha.1, ha.2, fun i hi e => ?_, fun i hi => ?_⟩
  · obtain ⟨v, hv⟩ := h.tk i hi
    exact hlg.unlike hv (by decide) e
  · rw [Addr.add_mid, Nat.zero_add]
    exact h4 i _ (by simp [hi])
/-- Run, of one pick. -/
theorem Lx.run (hG : P.Good) (h : Lx P k np T ts m (r + 1) s qs d W) {A : Option Addr} {cp : Nat} (hr : Lr P bx B0 ts (.slice A P.nw cp) wv pv ps W) (h5 : P.nw ≤ 5) {y : Int} (hy : (Lit.int .i64 y).wf = true) (hm : m ≤ 10000) :
    Calls Try.prog 24 #[.slice A P.nw cp, .slice (some ⟨W.heap.size, 0, none⟩) 1 1] (W.alloc (.cells #[.int .i64 y] 3)) fun e w' => (∃ n, e = .returned (.int .i64 n)) ∧ (SM P).RunAt (r + 1) P.nw ts ⟨s, qs, d, 0⟩ [y] (W.alloc (.cells #[.int .i64 y] 3)) 1 w' := by
  have hM := sm_ok P hG
  have k0 : Turns [] W (W.alloc (.cells #[.int .i64 y] 3)) := (Turns.refl _ _).alloc _
  have h2 := h.turns hG k0
  have hr2 := hr.turns hG h.si k0
  have l0 : Lies (W.alloc (.cells #[.int .i64 y] 3)) W.heap.size 3 #[.int .i64 y] := Lies.new _ _ _
  have f0 := (hM.okw _ _ _ h.si).fr hM k0
  have out : W.heap.size ∉ tsL P.nw ts ++ P.L := fun hm => (List.mem_append.1 hm).elim (fun q => by
    obtain ⟨i, hi, e⟩ := tsL_mem.1 q
    have := (h.all.tk i hi).lt
    omega) (fun q => by
    have := (hM.okw _ _ _ h.si).lt _ q
    omega)
  refine (run_g (M := SM P) (f := r + 1) hM A (some ⟨W.heap.size, 0, none⟩) P.nw cp 1 1 ts [y] ⟨s, qs, d, 0⟩ _ (h2.trow hr2 h5) ⟨⟨rfl, by simp only [maxLen]; omega, fun x hx => ?_, fun _ => ⟨_, rfl, l0.lt, fun i hi => ?_⟩⟩, fun _ a e => ?_⟩ h2.all (by omega) rfl (fun q hq i hi _ _ => ?_) (fun i hi => ?_)).mono ?_
  · obtain rfl : x = y := by simpa using hx
    exact hy
  · obtain rfl : i = 0 := by omega
    rw [Addr.add_mid, Nat.zero_add]
    exact l0.cell 0
  · injection e with e
    subst e
    refine ⟨out, fun q => ?_⟩
    obtain ⟨_, cur, hl⟩ := h.si.rw (SI.rows_turns hG h.si k0 (by simp) q)
    exact absurd hl.lt (Nat.lt_irrefl _)
  · obtain rfl : q = 0 := by omega
    exact h.inv.w i hi
  · have := h.d i hi
    show d i + 1 < _
    omega
  · rintro e w' ⟨rfl, hra⟩
    exact ⟨⟨_, rfl⟩, hra⟩
/-- a pick. -/
theorem Lx.pick (h : Lx P k np T ts m (r + 1) s qs d W2) (hk : k ≤ 1000) (hT : T + m < 4000000000) (hb : hIx (getA s.l 0) = -1 → ∀ j, j < P.nw → s.ba j = true) {y : Int} (hy : np ≤ m → y = (((m - np) / 78 : Nat) : Int)) (hr : (SM P).RunAt (r + 1) P.nw ts ⟨s, qs, d, 0⟩ [y] W2 1 W3) :
    ∃ s' qs' d', Lx P k np T ts (m + 1) r s' qs' d' W3 ∧ s'.k ≤ s.k + 1 := by
  have e : (SM P).picks P.nw ⟨s, qs, d, 0⟩ [y] 1 = (SM P).pick P.nw ⟨s, qs, d, 0⟩ y := rfl
  have hall := hr.all
  rw [e] at hall
  have hinv := h.inv.pick y
  obtain ⟨tl, hg⟩ := h.gl
  unfold Gm.pick at hall hinv
  by_cases hd : (SM P).does P.nw ⟨s, qs, d, 0⟩ y = true
  · rw [if_pos hd] at hall hinv
    obtain ⟨j, rfl, hj, hne⟩ : ∃ j : Nat, y = j ∧ j < P.nw ∧ (SM P).ended (qs j) = false := by
      simp [Gm.does] at hd
      refine ⟨y.toNat, by omega, by omega, ?_⟩
      have := hd.2
      simpa using this
    simp only [Int.toNat_natCast] at hall hinv
    obtain ⟨tl', hg'⟩ := hg.step (P := P) hj hT hk (fun _ e => hb e j hj)
    have hf := sk_facts (P := P) (qs j) s h.inv.len (h.inv.ok j hj) (by rw [h.inv.j j hj]; exact h.inv.hs j hj)
    refine ⟨_, _, _, ⟨⟨hall.tk, hall.inv⟩, ⟨hinv.len, hinv.j, hinv.ok, hinv.hs, hinv.w, hinv.l⟩, ⟨tl', ?_⟩, ?_, fun i hi => ?_, h.inj⟩, sk_k (P := P) s (qs j)⟩
    · exact hg'
    · exact h.fin.step h.inv.l hj (Nat.le_trans hf.2.2.2.1 (h.inv.l j hj)) (fun hm => by have := hy hm; omega) hne (hf.2.2.2.2.2.2 hne)
    · show updF d j (d j + 1) i ≤ m + 1
      have := h.d i hi
      by_cases e : i = j
      · subst e; rw [updF_same]; omega
      · rw [updF_ne _ _ e]; omega
  · rw [if_neg hd] at hall hinv
    refine ⟨s, qs, d, ⟨hall, hinv, ⟨tl, ⟨hg.ok, hg.ch, hg.perm, by have := hg.cnt; omega, hg.wk, hg.j, hg.wr, hg.fit⟩⟩, h.fin.idle h.inv.l (fun hm hlt => ?_), fun i hi => Nat.le_succ_of_le (h.d i hi), h.inj⟩, by omega⟩
    have e := hy hm
    generalize (m - np) / 78 = j at *
    subst e
    simp [Gm.does] at hd
    exact hd hlt
/-- in the main loop: m picks are done. -/
structure Lm (w0 : World) (P : SP) (bx B0 k np : Nat) (ts : Nat → Nat) (tv wv pv : Value) (ps : List Int) (m : Nat) (W : World) : Prop where
  at_ : ∃ s qs d, Lx P k np 200 ts m (1000 - m) s qs d W
  row : Lr P bx B0 ts tv wv pv ps W
  be : Below B0 w0 W
theorem Lm.start {w0 W W4 : World} {s : SSt} {qs : Nat → SPr} (mk : Mk P 1000 1000 ts qs s W) (hv : Inv8 P P.nw ⟨s, qs, fun _ => 0, 0⟩) (hg : Gl k P.nw 200 qs s (upto k)) (hbox : (SM P).Bx W bx 27 (stC P)) (htv : VRow W B0 35 tv ((List.range P.nw).map fun i => ptr (ts i))) (hwv : VRow W B0 30 wv ((List.range P.nw).map fun i => ptr (P.wb i))) (be : Below B0 w0 W) (hB : B0 ≤ W.heap.size) (hpv : IRow W4 W.heap.size pv ps) (b : Below W.heap.size W W4) : Lm w0 P bx B0 k np ts tv wv pv ps 0 W4 := by
  have t : Turns [] W W4 := Turns.of_below b (Nat.le_refl _)
  exact ⟨⟨s, qs, fun _ => 0, (Lx.start mk hv hg).turns mk.good t⟩, ⟨Gm.Bx.turns mk.good mk.si hbox t (by simp) (by simp), htv.turns t (by simp), hwv.turns t (by simp), LRow.new mk.good mk.si hpv b hB⟩, be.trans (t.below (by simp) hB)⟩

/-- behind the main loop: what was in hands is gathered. -/
structure Ld (w0 : World) (P : SP) (bx B0 r : Nat) (ts : Nat → Nat) (tv wv : Value) (s : SSt) (qs : Nat → SPr) (d : Nat → Nat) (hv : Value) (j : Nat) (W : World) : Prop where
  tk : ∀ i, i < P.nw → (SM P).Task 0 (qs i) (d i) (ts i) W
  si : SI P r s W
  box : (SM P).Bx W bx 27 (stC P)
  tv : VRow W B0 35 tv ((List.range P.nw).map fun i => ptr (ts i))
  wv : VRow W B0 30 wv ((List.range P.nw).map fun i => ptr (P.wb i))
  hd : LRow P B0 hv (allH j s.hs) W
  be : Below B0 w0 W
theorem Ld.start {w0 : World} (h : Lx P k np T ts m r s qs d W) (hr : Lr P bx B0 ts tv wv pv ps W) (be : Below B0 w0 W) : Ld w0 P bx B0 r ts tv wv s qs d (.slice none 0 0) 0 W :=
  ⟨fun i hi => (h.all.tk i hi).to (Nat.zero_le _), h.si, hr.box, hr.tv, hr.wv, ⟨IRow.nil _ _, fun g hg => by cases hg⟩, be⟩
theorem Ld.next {w0 : World} {hv hv' : Value} {j : Nat} (hG : P.Good) (h : Ld w0 P bx B0 r ts tv wv s qs d hv j W) (l : LRow P B0 hv' (allH j s.hs ++ s.hs j) W') (t : Turns hv.ownBlock.toList W W') (hB : B0 ≤ W.heap.size) : Ld w0 P bx B0 r ts tv wv s qs d hv' (j + 1) W' := by
  have hK : ∀ b, b ∈ hv.ownBlock.toList → b ∉ P.L ∧ ¬ Rw P.ws W b := fun b hb => h.hd.out b (by simpa using hb)
  have hI : ∀ b, b ∈ hv.ownBlock.toList → ∃ cur, Lies W b 3 cur := fun b hb => by
    have hb : hv.ownBlock = some b := by simpa using hb
    rcases h.hd.row.own.2 with ⟨h0, _⟩ | ⟨g', cap, cur, h0, _, hl, _⟩
    · rw [h0] at hb; cases hb
    · rw [h0] at hb
      obtain rfl : g' = b := by simpa [Value.ownBlock] using hb
      exact ⟨cur, hl⟩
  refine ⟨fun i hi => ?_, h.si.turns t hK, Gm.Bx.turns hG h.si h.box t (fun b hb => (hK b hb).1) (fun hb => ?_), h.tv.turns t (fun g hg hm => ?_), h.wv.turns t (fun g hg hm => ?_), by rw [allH_succ]; exact l, h.be.trans (t.below (fun b hb => (h.hd.row.lt b (by simpa using hb)).1) hB)⟩
  · obtain ⟨⟨v, h1, h2⟩, h3, h4, h5⟩ := h.tk i hi
    refine ⟨⟨v, h1.turn t (fun hm => ?_), h2.shape⟩, h3, h4, fun q => h5 (SI.rows_turns hG h.si t (fun b hb => (hK b hb).1) q)⟩
    obtain ⟨cur, hl⟩ := hI _ hm
    exact h1.unlike hl (by decide) rfl
  · obtain ⟨cur, hl⟩ := hI _ hb
    exact h.box.l.unlike hl (by decide) rfl
  · obtain ⟨_, c1, h1⟩ := h.tv.lies hg
    obtain ⟨cur, hl⟩ := hI _ hm
    exact h1.unlike hl (by decide) rfl
  · obtain ⟨_, c1, h1⟩ := h.wv.lies hg
    obtain ⟨cur, hl⟩ := hI _ hm
    exact h1.unlike hl (by decide) rfl
theorem VRow.at_ {E : TypeId} {A : Option Addr} {n cp N i : Nat} {f : Nat → Value} (h : VRow W B0 E (.slice A n cp) ((List.range N).map f)) (hi : i < N) : ∃ g, A = some ⟨g, 0, none⟩ ∧ W.cell? ⟨g, i, none⟩ = some (f i) := by
  obtain ⟨A', cp', h1, _, h2⟩ := h.slice
  injection h1 with h1 _ _
  subst h1
  obtain ⟨g, h3, h4, h5⟩ := h2 (by simp; omega)
  exact ⟨g, h3, h5 i _ (by simp [hi])⟩
theorem allH_le {hs : Nat → List Int} {j : Nat} : ∀ (N : Nat), j ≤ N → (allH j hs).length ≤ (allH N hs).length
  | 0, h => by
    obtain rfl : j = 0 := by omega
    exact Nat.le_refl _
  | N + 1, h => by
    rcases (by omega : j ≤ N ∨ j = N + 1) with h | rfl
    · rw [allH_succ, List.length_append]
      have := allH_le (hs := hs) N h
      omega
    · exact Nat.le_refl _
/-- a worker's hands, as a slice. -/
theorem SI.hands (hG : P.Good) (h : SI P r s W) {j : Nat} (hj : j < P.nw) : ∃ A cp, Lies W (P.wb j) 34 #[.slice A (s.hs j).length cp, P.gotV j, .bool (s.bu j), .bool (s.ba j), .bool (s.wr j)] ∧ Row W .i64 A (s.hs j).length (s.hs j) := by
  obtain ⟨v, hl, ho⟩ := h.wk j hj
  have hI : IRow W P.B v (s.hs j) := ⟨ho, fun x hx => WalkArith.wf_i64 (by have := h.hb j hj x hx; have := hG.few; omega)⟩
  obtain ⟨A, cp, rfl, hr⟩ := hI.row
  exact ⟨A, cp, hl, hr⟩
end

end Go.Proofs.Ythjbmaeoogophaa

/- Layer 8: StackMany. -/
namespace Go.Proofs.Ythjbmaeoogophaa
open Go.RowKit Go.ChangeShapes Go.WideShapes
set_option maxRecDepth 100000

set_option maxHeartbeats 2000000 in
theorem many8 (nn : Nat) (hnn : nn < 256) (A : Option Addr) (n cp : Nat) (bss : List (List Bool)) (hbss : bss.length = n) (PA : Option Addr) (np pcp : Nat) (xs : List Int) (w : World) (hg : BGrid w A bss) (hp : Row w .i64 PA np xs) :
    Calls Try.prog 4 #[.int .u8 nn, .slice A n cp, .slice PA np pcp] w fun e w' => e = .returned (.bool true) ∧ Below w.heap.size w w' := by
  by_cases h5 : 5 < n
  · have h5' : (5 : Int) < n := by omega
    go_enter Try.func4, Try.ntmps4
    go_wp2_with fail
    refine (speaks8_any _).mono ?_
    rintro e w1 ⟨rfl, b1⟩
    go_wp2_with fail
    refine (speaks8_any _).mono ?_
    rintro e w2 ⟨rfl, b2⟩
    go_wp2
    go_ret
    exact ⟨rfl, b1.trans (b2.mono b1.size)⟩
  · by_cases h3 : 300 < np
    · have h5' : ¬ ((5 : Int) < n) := by omega
      have h3' : (300 : Int) < np := by omega
      go_enter Try.func4, Try.ntmps4
      go_wp2_with fail
      refine (speaks8_any _).mono ?_
      rintro e w1 ⟨rfl, b1⟩
      go_wp2_with fail
      refine (speaks8_any _).mono ?_
      rintro e w2 ⟨rfl, b2⟩
      go_wp2
      go_ret
      exact ⟨rfl, b1.trans (b2.mono b1.size)⟩
    · have h5' : ¬ ((5 : Int) < n) := by omega
      have h3' : ¬ ((300 : Int) < np) := by omega
      obtain ⟨k, hk⟩ : ∃ k, nn % 13 = k := ⟨_, rfl⟩
      have hk13 : k < 13 := by omega
      have hmod : ((nn : Int).tmod 13) = (k : Int) := by rw [← hk]; rw [Int.tmod_eq_emod_of_nonneg (by omega)]; omega
      have hwr : IntKind.i64.wrap (nn : Int) = nn := by rw [IntKind.wrap_i64]; omega
      have hwk : IntKind.i64.wrap (k : Int) = k := by rw [IntKind.wrap_i64]; omega
      have HK := Lib.hid (And.intro hmod (And.intro hwr hwk))
      clear hmod hwr hwk hk
      go_enter Try.func4, Try.ntmps4
      go_wp2_with fail
      refine (speaks8_any _).mono ?_
      rintro e w1 ⟨rfl, b1⟩
      have hg1 := hg.keep b1
      have HG := Lib.hid hg
      clear hg
      go_wp2_with fail
      go_loopw [8, 42] (fun _ i W => ∃ t : Nat, i = .int .i64 (t : Int) ∧ t ≤ n ∧ w1 = W ∧ ∀ j, j < t → (bss.getD j []).length ≤ 12) (fun _ i _ => n - (intOf i).toNat)
      case atStart => exact ⟨0, rfl, Nat.zero_le _, rfl, fun j hj => absurd hj (Nat.not_lt_zero _)⟩
      case round =>
        obtain ⟨t, rfl, htn, hW, hall⟩ := hrel
        generalize wr = W at *
        subst hW
        by_cases ht : t < n
        · obtain ⟨a, rfl, hab, hcells⟩ := hg1.at_ (by omega)
          obtain ⟨A', c', hcell, _, _, _⟩ := hcells t (by omega)
          have HA := Lib.hid hall
          clear hcells hall
          by_cases h12 : 12 < (bss.getD t []).length
          · have h12' : (12 : Int) < (bss.getD t []).length := by omega
            generalize (bss.getD t []).length = L at *
            go_wp2_with fail
            go_ret
            exact ⟨rfl, b1⟩
          · have h12' : ¬ ((12 : Int) < (bss.getD t []).length) := by omega
            have F : ∀ j, j < t + 1 → (bss.getD j []).length ≤ 12 := fun j hj => by
              rcases (by omega : j < t ∨ j = t) with h | rfl
              · exact HA.out j h
              · omega
            have HF := Lib.hid F
            clear F HA h12
            generalize (bss.getD t []).length = L at *
            go_wp2_with fail
            go_roundw
            case rel => exact ⟨t + 1, by go_num, by omega, by trivial, HF.out⟩
            case measure => simp [intOf]; omega
        · obtain rfl : n = t := by omega
          have HALL := Lib.hid hall
          obtain ⟨hmod, hwr, hwk⟩ := HK.out
          clear hall hg1
          go_wp2_with fail
          clear hmod hwr hwk
          refine (fresh8_any k (by omega) w1).mono ?_
          rintro e w2 ⟨p, c, rfl, ha, b2, hc, hp2⟩
          have y2 := fun (a : Addr) (f : FuncId) (c : Array Value) (w : World) => run_store Try.prog w a (.func (.func f) #[] c) .plain rfl
          go_wp2_with fail
          clear y2
          have hz1 := ha.head.lt
          have hb2 := b2.size
          generalize hh : w2.heap.size = h2 at *
          obtain ⟨W4, hW4⟩ : ∃ W4, ((w2.alloc (.cells #[.pointer (some ⟨p, 0, none⟩), .int .i64 0, .func (.func 38) #[] #[]] 27)).alloc (.cells #[.slice none 0 0, .pointer none, .bool false, .bool false, .bool false] 34)) = W4 := ⟨_, rfl⟩
          have k4 : Turns [] w2 W4 := by rw [← hW4]; exact ((Turns.refl _ _).alloc _).alloc _
          have l1 : Lies W4 h2 27 #[.pointer (some ⟨p, 0, none⟩), .int .i64 0, .func (.func 38) #[] #[]] := by rw [← hW4]; exact (Lies.new_of _ _ (by simp [hh])).alloc _
          have l2 : Lies W4 (h2 + 1) 34 #[.slice none 0 0, .pointer none, .bool false, .bool false, .bool false] := by rw [← hW4]; exact Lies.new_of _ _ (by simp [hh])
          have ha4 := ha.turn k4 (by simp) (by simp)
          obtain ⟨P, hP⟩ : ∃ P, SP1 p c w1.heap.size k (h2 + 1) none = P := ⟨_, rfl⟩
          have hG : P.Good := by
            rw [← hP]
            exact SP1.good (by omega) hc (by omega) (fun x hx => by cases hx) (by omega) (by omega) (by omega)
          have hI : SI P 2000 (SSt1 (List.replicate (k + 1) 0) 0 [] [] false false false) W4 := by
            rw [← hP]
            exact SI.one ha4 (by omega) (sok_zero k) l2 (World.ownsRow_nil _ _ _ _) (fun x hx => by cases hx) (by simp) (by simp)
          have gp : P.nw = 1 ∧ P.B = w1.heap.size ∧ P.n = k ∧ P.p = p ∧ P.c = c ∧ P.wb 0 = h2 + 1 ∧ P.gp 0 = none := by rw [← hP]; exact ⟨rfl, rfl, rfl, rfl, rfl, rfl, rfl⟩
          have hbx : (SM P).Bx W4 h2 27 (stC P) := by
            refine ⟨by unfold stC; rw [gp.2.2.2.1]; exact l1, fun hm => ?_, fun h => ?_, by decide, fun hm => ?_⟩
            · rw [← hP] at hm
              rcases SP.L_mem.1 hm with h | h | ⟨j, _, h⟩ | ⟨j, _, h⟩
              · have h : h2 = p := h
                omega
              · have h : h2 = c := h
                omega
              · have h : h2 + 1 = h2 := h
                omega
              · cases h
            · obtain ⟨_, cur, h3⟩ := hI.rw h
              exact h3.unlike l1 (by decide) rfl
            · rw [← hP] at hm; cases hm
          have HGP := Lib.hid gp
          have HEX : Hid (P.ex = []) := Lib.hid (by rw [← hP]; rfl)
          have hF : FillM w1 P h2 w1.heap.size k 0 (.slice none 0 0) W4 := ⟨⟨_, hI, rfl, rfl, rfl, rfl⟩, hbx, VRow.nil _ _ _, Nat.zero_le _, b2.trans (k4.below (by simp) (by omega))⟩
          rw [hW4]
          clear hW4 k4 l1 l2 ha ha4 hP hI hbx gp hh hz1 hb2 b2
          go_loopw [13, 14, 63] (fun pv _ i W => ∃ m : Nat, i = .int .i64 (m : Int) ∧ FillM w1 P h2 w1.heap.size k m pv W) (fun _ _ i _ => k - (intOf i).toNat)
          case atStart => exact ⟨0, rfl, hF⟩
          case round =>
            clear hF
            obtain ⟨m, rfl, hF⟩ := hrel
            generalize wr = W at *
            generalize u13 = pv at *
            by_cases hm : m < k
            · obtain ⟨⟨s, hi, e1, e2, e3, e4⟩, hbx, hpv, _, hbe⟩ := hF
              obtain ⟨v, hl, ho⟩ := hi.wk 0 (by rw [HGP.out.1]; omega)
              have h1w : P.wb 0 = h2 + 1 := HGP.out.2.2.2.2.2.1
              have hj0 : 0 < P.nw := by rw [HGP.out.1]; omega
              have hlen : (s.hs 0).length = m := by rw [e1, upto_length]
              rw [h1w] at hl
              have d0 : W.cell? ⟨h2 + 1, 0, none⟩ = some v := hl.cell 0
              have tuW : Turns [] W (W.alloc (.cells #[.int .i64 (m : Int)] 3)) := (Turns.refl [] _).alloc _
              have hiW := SI.tasks (Mv.of_turns tuW (by simp) (fun x hx => by cases hx)) hi
              have frW := ((sm_ok P hG).okw _ _ _ hi).fr (sm_ok P hG) tuW
              have cW := (tuW.cell (p := ⟨h2 + 1, 0, none⟩) hl.lt (by simp)).trans d0
              have fW : (W.alloc (.cells #[.int .i64 (m : Int)] 3)).frozen? ⟨h2 + 1, 0, none⟩ = false := (hl.turn tuW (by simp)).frozen 0
              have lt2 := hl.lt
              have n2 := own_ne ho hl (by decide)
              have hbase : P.B ≤ W.heap.size := ((sm_ok P hG).okw _ _ _ hi).base
              have F : ∀ g cap w9, w9.ownsRow P.B 3 1 (.slice (some ⟨g, 0, none⟩) ((s.hs 0).length + 1) cap) ((s.hs 0).length + 1) (intVs (s.hs 0) ++ [.int .i64 (m : Int)]) → (W.alloc (.cells #[.int .i64 (m : Int)] 3)).grownBy w9 v.ownBlock → (v.ownBlock = some g ∨ g = W.heap.size + 1) →
                  ∃ s', SI P 2000 s' (w9.setCell ⟨h2 + 1, 0, none⟩ (.slice (some ⟨g, 0, none⟩) ((s.hs 0).length + 1) cap)) ∧ (s'.hs 0 = upto (m + 1) ∧ s'.l = List.replicate (k + 1) 0 ∧ s'.wr 0 = false ∧ s'.k = 0) ∧ Fr P.L P.ws W (w9.setCell ⟨h2 + 1, 0, none⟩ (.slice (some ⟨g, 0, none⟩) ((s.hs 0).length + 1) cap)) := by
                intro g cap w9 q1 q2 q3
                have hc1 : (W.alloc (.cells #[.int .i64 (m : Int)] 3)).cell? ⟨P.wb 0, 0, none⟩ = some v := by rw [h1w]; exact cW
                obtain ⟨a1, a2⟩ := hiW.app_h hG 0 hj0 hc1 q1 q2 q3 (by simp) ⟨by omega, by rw [HGP.out.2.2.1]; omega⟩ (by omega)
                rw [h1w] at a1 a2
                refine ⟨_, a1, ⟨?_, e2, e3, e4⟩, frW.trans a2⟩
                show updF s.hs 0 (s.hs 0 ++ [(m : Int)]) 0 = _
                rw [updF_same, e1, upto_succ]
              have F2 : ∀ s' W2 pv' W3, SI P 2000 s' W2 → (s'.hs 0 = upto (m + 1) ∧ s'.l = List.replicate (k + 1) 0 ∧ s'.wr 0 = false ∧ s'.k = 0) → Fr P.L P.ws W W2 → VRow W3 w1.heap.size 4 pv' ((List.replicate m false).map Value.bool ++ [.bool false]) → Turns pv.ownBlock.toList W2 W3 → FillM w1 P h2 w1.heap.size k (m + 1) pv' W3 := by
                intro s' W2 pv' W3 q1 q2 q3 q4 q5
                have x2 := hpv.fr hi q3
                have hK : ∀ b, b ∈ pv.ownBlock.toList → b ∉ P.L ∧ ¬ Rw P.ws W2 b := fun b hb => by
                  obtain ⟨_, cur, hl⟩ := x2.lies (g := b) (by simpa using hb)
                  exact q1.bools hl
                refine ⟨⟨s', q1.turns q5 hK, q2⟩, Gm.Bx.turns hG q1 (hbx.mv q3.mv) q5 (fun b hb => (hK b hb).1) (fun hb => ?_), ?_, by omega, (hbe.trans ((hi.below hG (fun b hb => .inl hb) q3).mono (by have := HGP.out.2.1; omega))).trans (q5.below (fun b hb => (x2.lies (by simpa using hb)).1) (Nat.le_trans hbe.size q3.size))⟩
                · obtain ⟨_, cur, hl⟩ := x2.lies (g := h2) (by simpa using hb)
                  exact hl.unlike (hbx.mv q3.mv).l (by decide) rfl
                · rw [List.replicate_succ', List.map_append]
                  exact q4
              have hnl : (s.hs 0).length < 1000 := by omega
              clear e1 e2 e3 e4 hlen hiW frW tuW h1w
              obtain ⟨i0, hi0, hz0, hz1, hz2⟩ := info_parts int_info8
              have hvl : ((List.replicate m false).map Value.bool).length = m := by simp
              have HVL := Lib.hid hvl
              clear hvl
              go_upto_region 19 with (first | (at_builtin; refine wpList_append_lies _ rfl (.tmp 70) (.tmp 72) 31 rfl P.B 3 i0 _ 1 8 Try.underlying31 hi0 hz0 hz1 hz2 rfl (by omega) v (s.hs 0).length (intVs (s.hs 0)) rfl (ho.alloc _) ⟨W.heap.size, 0, none⟩ 1 1 [.int .i64 (m : Int)] rfl rfl (World.news_of_block (cs := #[.int .i64 (m : Int)]) (t := 3) (fr := (0, 0)) (heap_alloc_new W _)) (by simp [Value.oneCell']) (by omega) (by simp only [maxLen]; omega) (by omega) (by simp; omega) (W.heap.size + 1) (by simp) ?_; intro gg cap w9 hown1 hgrow hat hlt; have p2 : w9.cell? ⟨h2 + 1, 0, none⟩ = some v := (hgrow.cell_far ⟨h2 + 1, 0, none⟩ (by simp; omega) n2).trans cW; have pf : w9.frozen? ⟨h2 + 1, 0, none⟩ = false := (hgrow.frozen_far ⟨h2 + 1, 0, none⟩ (by simp; omega) n2).trans fW) | fail)
              obtain ⟨s', q1, q2, q3⟩ := F _ _ _ hown1 hgrow hat
              have x2 := hpv.fr hi q3
              have hB2 : w1.heap.size ≤ (w9.setCell ⟨h2 + 1, 0, none⟩ (.slice (some ⟨gg, 0, none⟩) ((s.hs 0).length + 1) cap)).heap.size := by
                have h8 := q3.size
                have h9 := HGP.out.2.1
                omega
              have F3 := fun pv' W3 => F2 s' _ pv' W3 q1 q2 q3
              clear q1 q2 q3 F F2 hi hpv hbx ho cW fW d0 hl hown1 hgrow p2 pf
              generalize w9.setCell ⟨h2 + 1, 0, none⟩ (.slice (some ⟨gg, 0, none⟩) ((s.hs 0).length + 1) cap) = W2 at *
              generalize hvs : (List.replicate m false).map Value.bool = vs at *
              have HVS := Lib.hid hvs
              clear hvs
              go_wp2_with (first | (at_builtin; refine wpList_vrow (T := 22) (E := 4) (z := .bool false) (u := .bool false) (nb := 1) Try.underlying22 (by kernel_rfl) (by omega) rfl rfl x2 hB2 (by rw [HVL.out]; omega) (by rfl) (.tmp 76) (.tmp 77) rfl rfl rfl ?_; intro pv' W3 r1 r2) | fail)
              go_roundw
              case rel => exact ⟨m + 1, by go_num, F3 _ _ r1 r2⟩
              case measure => simp [intOf]; omega
            · have hle := hF.le
              obtain rfl : m = k := by omega
              have hN := HGP.out
              have hM := sm_ok P hG
              have hj0 : 0 < P.nw := by omega
              obtain ⟨⟨s, hi, e1, e2, e3, e4⟩, hbox, hpv, _, hbe⟩ := hF
              have hBW : w1.heap.size ≤ W.heap.size := hbe.size
              obtain ⟨A1, c1, hv, hcp, hBL⟩ := hpv.bl (P := P) (by simp; omega) (fun g hg hm => by
                obtain ⟨_, cur, hl⟩ := hpv.lies hg
                have := (hi.bools hl).1
                rcases List.mem_append.1 hm with h1 | h1
                · exact this h1
                · rw [HEX.out] at h1; cases h1) (fun g hg => by
                obtain ⟨_, cur, hl⟩ := hpv.lies hg
                exact (hi.bools hl).2)
              have hcode := code_g hG 2000 (List.replicate m false) 0 A1 c1 W 2000 s hj0 hBL hcp hi
              obtain ⟨R, hR⟩ : ∃ R, startS 0 (List.replicate m false) s = R := ⟨_, rfl⟩
              have hWR : (SM P).W R.1 R.2 := by rw [← hR]; exact W_start _ _ _
              have hfl := first_lays (P := P) (by omega) s e1 e2 e3 (fun i => hi.ar.fitA i) hR
              rw [hR] at hcode
              obtain ⟨c0, c1', c2'⟩ : W.cell? ⟨h2, 0, none⟩ = some (ptr P.p) ∧ W.cell? ⟨h2, 1, none⟩ = some (.int .i64 0) ∧ W.cell? ⟨h2, 2, none⟩ = some (.func (.func 38) #[] #[]) := ⟨hbox.l.cell 0, hbox.l.cell 1, hbox.l.cell 2⟩
              have hL : (List.replicate m false).length = m := by simp
              rw [hL] at hcode hv
              subst hv
              have hA : #[stV P, Value.slice A1 m c1, ptr (P.wb 0)] = #[chV P.p 0 38 #[], Value.slice A1 m c1, ptr (h2 + 1)] := by rw [hN.2.2.2.2.2.1]
              unfold Gm.Then at hcode
              rw [hA] at hcode
              have HE := Lib.hid hfl
              have HB := Lib.hid hbox
              have HI := Lib.hid hi
              clear hA hR hfl hpv e1 e2 e3 e4 hBL hi hL hcp hN hbox
              go_wp2_with fail
              refine hcode.mono ?_
              rintro e w7 ⟨v, rfl, ⟨hi7, hc7⟩, f7⟩
              have hn := newtask_any v hc7.is w7
              go_wp2_with fail
              refine hn.mono ?_
              rintro e w8 ⟨rfl, hw8⟩
              have tk := Gm.Task.made hM (hM.okw _ _ _ hi7) hc7
              have k8 : Turns [] w7 (w7.alloc (.cells #[v, .int .i64 0] 89)) := (Turns.refl _ _).alloc _
              have hi8 := hM.made k8 hi7
              have f8 := (hM.okw _ _ _ hi7).fr hM k8
              rw [hw8] at tk hi8 f8
              have hfin := finish_g hM 200 (by omega) tk hi8 (fun i _ _ => W_run hWR i) (by omega)
              obtain ⟨hend, qf, hgl⟩ := HE.out
              rw [hend] at hfin
              have f78 : Fr P.L P.ws W w8 := Fr.trans f7 f8
              have hsz := f7.size
              have HGL := Lib.hid hgl
              clear hw8 tk hi8 hi7 hc7 hn hcode k8 f8 f7 hgl hend c0 c1' c2'
              go_wp2_with fail
              refine (show Calls Try.prog 18 #[ptr w7.heap.size, .int .i64 200] _ _ from hfin).mono ?_
              rintro e w9 ⟨rfl, _, hi9, f9, _⟩
              have F9 := f78.past f9 hsz
              obtain ⟨s9, hs9⟩ : ∃ s9, ((SM P).runN R.1 R.2 0 200).2.1 = s9 := ⟨_, rfl⟩
              have HGL := HGL.out
              rw [hs9] at hi9 HGL
              have box9 := HB.out.mv F9.mv
              obtain ⟨c0, c1', c2'⟩ : w9.cell? ⟨h2, 0, none⟩ = some (ptr P.p) ∧ w9.cell? ⟨h2, 1, none⟩ = some (.int .i64 0) ∧ w9.cell? ⟨h2, 2, none⟩ = some (.func (.func 38) #[] #[]) := ⟨box9.l.cell 0, box9.l.cell 1, box9.l.cell 2⟩
              have hlst := hi9.lists hG (fun _ => True) trivial
              rw [HGL.told (by omega)] at hlst
              have HGL := Lib.hid HGL
              have hB9 : w1.heap.size ≤ w9.heap.size := Nat.le_trans hBW F9.size
              clear hfin f9 f78 hs9 hsz hWR HE
              go_wp2_with fail
              refine hlst.mono ?_
              rintro e w10 ⟨u, rfl, hr10, b10, _⟩
              obtain ⟨Au, cu, hu, _⟩ := hr10.row
              rw [upto_length] at hu
              subst hu
              have t10 : Turns [] w9 w10 := Turns.of_below (L := []) b10 (Nat.le_refl _)
              have hpp : P.p = p := HGP.out.2.2.2.1
              have hS : Mm w1 p h2 w1.heap.size m 1000 0 200 (.slice none 0 0) (.slice none 0 0) w10 := by
                rw [← hpp]
                exact Mm.start (q := fun _ => qf) (hi9.ar.turn t10 (by simp) (by simp)) HGL.out rfl (by rw [← HGP.out.2.1]; exact hG.low.1) (by rw [← HGP.out.2.1]; exact hG.low.2.1) hG.4.1 (by omega) (by have := hi9.room; omega) (box9.l.turn t10 (by simp)) ((hbe.trans ((HI.out.below hG (fun b hb => .inl hb) F9).mono (by have := HGP.out.2.1; omega))).trans (t10.below (by simp) hB9))
              clear hlst hr10 b10 t10 hi9 box9 F9 hbe HB HI HGL c0 c1' c2' HGP HEX hG hM hpp hB9 hBW
              go_wp2_with fail
              go_loopw [16, 17, 19, 20, 101] (fun tv wv _ _ i W => ∃ t : Nat, i = .int .i64 (t : Int) ∧ t ≤ n ∧ Mm w1 p h2 w1.heap.size m 1000 t 200 tv wv W) (fun _ _ _ _ i _ => n - (intOf i).toNat)
              case atStart => exact ⟨0, rfl, Nat.zero_le _, hS⟩
              case round =>
                clear hS
                obtain ⟨t, rfl, htn, hS⟩ := hrel
                generalize wr = W at *
                generalize u16 = tv at *
                generalize u17 = wv at *
                by_cases ht : t < n
                · obtain ⟨P, ts, qs, s, mk, hPt, hPn, hPB, hPp, hbox, hv, hwv, hwx, hinv, hgl⟩ := hS.at_
                  have hbe := hS.be
                  subst hPt
                  have hgW := HG.out.keep (b1.trans (hbe.mono b1.size))
                  obtain ⟨a, rfl, hab, hcells⟩ := hgW.at_ (by omega)
                  obtain ⟨A', c', hcell, hlc, hlm, _⟩ := hcells P.nw (by omega)
                  obtain ⟨a0, ea0, hab0, hcells0⟩ := HG.out.at_ (by omega)
                  injection ea0 with ea0
                  subst ea0
                  obtain ⟨A0, c0', hcell0, _, _, hrow0⟩ := hcells0 P.nw (by omega)
                  have hA0 : BRow w A' (bss.getD P.nw []) := by
                    have e := ((b1.trans (hbe.mono b1.size)).cell (p := a.add P.nw) (by rw [add_block]; exact hab0)).symm.trans hcell
                    rw [hcell0] at e
                    injection e with e
                    injection e with e _ _
                    rw [← e]
                    exact hrow0
                  have h12 := HALL.out P.nw ht
                  clear hcells hcells0 hcell0 hrow0 hgW
                  generalize hbs : bss.getD P.nw [] = bs at *
                  have hWb : w1.heap.size ≤ W.heap.size := hbe.size
                  have kA : Turns [] W (W.alloc (.cells #[.slice none 0 0, .pointer none, .bool false, .bool false, .bool false] 34)) := (Turns.refl _ _).alloc _
                  have lA := Lies.new W 34 #[.slice none 0 0, .pointer none, .bool false, .bool false, .bool false]
                  have hwvA := hwv.turns kA (by simp)
                  have hBA : w1.heap.size ≤ (W.alloc (.cells #[.slice none 0 0, .pointer none, .bool false, .bool false, .bool false] 34)).heap.size := by simp; omega
                  obtain ⟨L, hLl⟩ : ∃ L, bs.length = L := ⟨_, rfl⟩
                  have HL := Lib.hid hLl
                  rw [hLl] at hcell
                  have HMK := Lib.hid mk
                  have HINV := Lib.hid (And.intro hinv hgl)
                  have HBOX := Lib.hid hbox
                  have HV := Lib.hid hv
                  have HW := Lib.hid (And.intro hwv hwx)
                  have HROW := Lib.hid hA0
                  have HP := Lib.hid (And.intro hPn (And.intro hPB hPp))
                  have HLC := Lib.hid (And.intro hlc hlm)
                  have H12 := Lib.hid h12
                  have hvl : ((List.range P.nw).map fun i => ptr (P.wb i)).length = P.nw := by simp
                  have HVL := Lib.hid hvl
                  have HHC := Lib.hid hcell
                  have ht5 : P.nw ≤ 5 := by omega
                  clear mk hinv hgl hbox hv hwv hwx hA0 hPn hPB hPp hlc hlm h12 hvl hbs hLl hS
                  go_upto_region 30 with (fail)
                  obtain ⟨WA, hWA⟩ : ∃ WA, W.alloc (.cells #[.slice none 0 0, .pointer none, .bool false, .bool false, .bool false] 34) = WA := ⟨_, rfl⟩
                  rw [hWA] at kA lA hwvA hBA
                  rw [hWA]
                  clear hWA hcell
                  generalize hwvals : ((List.range P.nw).map fun i => ptr (P.wb i)) = wvals at *
                  have HWV := Lib.hid hwvals
                  clear hwvals
                  go_upto_region 31 with (first | (at_builtin; refine wpList_vrowh (T := 49) (E := 30) (z := .pointer none) (u := ptr W.heap.size) (nb := 8) Try.underlying49 (by kernel_rfl) (by omega) rfl rfl hwvA hBA (by rw [HVL.out]; omega) rfl (.tmp 107) (.tmp 109) rfl rfl rfl ?_; intro wv' wc r1 r2 r3) | fail)
                  obtain ⟨hPn, hPB, hPp⟩ := HP.out
                  obtain ⟨hwv, hwx⟩ := HW.out
                  have k1 : Turns wv.ownBlock.toList W wc := (kA.more (fun k hk => by cases hk)).trans r2
                  have hK1 : ∀ g, g ∈ wv.ownBlock.toList → g ∈ P.ex ∧ ∃ cs, Lies W g 30 cs := fun g hg => by
                    obtain ⟨_, cur, hl⟩ := hwv.lies (g := g) (by simpa using hg)
                    exact ⟨hwx g (by simpa using hg), cur, hl⟩
                  have lc := lA.turn r2 (fun hm => by
                    obtain ⟨_, cs, hl2⟩ := hK1 _ hm
                    have := hl2.lt
                    omega)
                  obtain ⟨ex, hex⟩ : ∃ ex, wv'.ownBlock.toList.filter (fun g => decide (W.heap.size ≤ g)) = ex := ⟨_, rfl⟩
                  have hexn : ∀ g, g ∈ ex → W.heap.size ≤ g := fun g hg => by
                    rw [← hex] at hg
                    simpa using (List.mem_filter.1 hg).2
                  have hexl : ∀ g, g ∈ ex → g < wc.heap.size := fun g hg => by
                    rw [← hex] at hg
                    obtain ⟨_, cur, hl⟩ := r1.lies (g := g) (by simpa using (List.mem_filter.1 hg).1)
                    exact hl.lt
                  have hwx' : ∀ g, wv'.ownBlock = some g → g ∈ P.ex ∨ g ∈ ex := fun g hg => by
                    rcases r3 g hg with h | h
                    · exact .inl (hwx g h)
                    · refine .inr ?_
                      rw [← hex]
                      refine List.mem_filter.2 ⟨by simpa using hg, ?_⟩
                      have := kA.size
                      simp
                      omega
                  obtain ⟨hG1, hi1⟩ := HMK.out.begin (hs := []) (ex := ex) k1 hK1 hexl lc (World.ownsRow_nil _ _ _ _) (fun g hg => by cases hg) (fun i hi => by cases hi) (by simp) (by omega)
                  have hbW : Below w1.heap.size W wc := k1.below (fun g hg => (hwv.lies (by simpa using hg)).1) hWb
                  have hBL : BL (P.one W.heap.size ex) wc A' bs := BL.of_row hG1 hi1 (show w.heap.size ≤ P.B by rw [hPB]; exact b1.size) HROW.out (HROW.out.keep (b1.trans ((hbe.trans hbW).mono b1.size))) (fun b hb => (List.mem_append.1 hb).elim (HMK.out.ex b) (fun h => by
                    have := hexn b h
                    show P.B ≤ b
                    omega)) (by rw [HL.out]; have := H12.out; rw [HL.out] at this; omega)
                  have hcode := code_w hG1 1000 bs P.nw A' c' wc 1000 (s.add P.nw []) (Nat.lt_succ_self _) hBL HLC.out.1 hi1
                  have hA : #[stV (P.one W.heap.size ex), Value.slice A' bs.length c', ptr ((P.one W.heap.size ex).wb P.nw)] = #[chV p 0 38 #[], Value.slice A' L c', ptr W.heap.size] := by
                    rw [SP.one_new, HL.out, ← hPp]
                    rfl
                  unfold Gm.Then at hcode
                  rw [hA] at hcode
                  have hbl := HBOX.out.l.turn k1 (fun hm => by
                    obtain ⟨_, cs, hl2⟩ := hK1 _ hm
                    exact HBOX.out.l.unlike hl2 (by decide) rfl)
                  have hbl : Lies wc h2 27 (chC p 0 38 #[]) := by rw [← hPp]; exact hbl
                  obtain ⟨c0, c1', c2'⟩ : wc.cell? ⟨h2, 0, none⟩ = some (ptr p) ∧ wc.cell? ⟨h2, 1, none⟩ = some (.int .i64 0) ∧ wc.cell? ⟨h2, 2, none⟩ = some (.func (.func 38) #[] #[]) := ⟨hbl.cell 0, hbl.cell 1, hbl.cell 2⟩
                  obtain ⟨R, hR⟩ : ∃ R, startS P.nw bs (s.add P.nw []) = R := ⟨_, rfl⟩
                  rw [hR] at hcode
                  have HR := Lib.hid hR
                  have HC := Lib.hid (And.intro lc (And.intro hexn hwx'))
                  clear hA hBL hR lc hbl hPp hPn hPB hex hexl hexn hwx' hK1 hwv hwx r3 r2 lA hwvA kA hbW hBA
                  go_wp2_with fail
                  refine hcode.mono ?_
                  rintro e W2 ⟨cv, rfl, ⟨hi2, hc2⟩, f2⟩
                  have hcis : IsCode cv := (Gm.Code.at_P hG1 hc2).is
                  have hn := newtask_any cv hcis W2
                  clear hcode c0 c1' c2'
                  go_wp2_with fail
                  refine hn.mono ?_
                  rintro e W3 ⟨rfl, hw3⟩
                  obtain ⟨lc, hexn, hwx'⟩ := HC.out
                  have hvc := HV.out.turns k1 (fun g hg hm => by
                    obtain ⟨_, cur, hl⟩ := HV.out.lies hg
                    obtain ⟨_, cs, hl2⟩ := HW.out.1.lies (g := g) (by simpa using hm)
                    exact hl.unlike hl2 (by decide) rfl)
                  have hv2 : VRow W2 w1.heap.size 35 tv _ := hvc.frE hi1 f2 (by decide) (by decide) (by decide) (by decide) (.inl (by decide))
                  have k3 : Turns [] W2 W3 := by rw [← hw3]; exact (Turns.refl _ _).alloc _
                  have hv3 := hv2.turns k3 (by simp)
                  have hB3 : w1.heap.size ≤ W3.heap.size := by
                    have := k1.size
                    have := f2.size
                    have := k3.size
                    omega
                  have F := Lib.hid (fun tv' W4 (q1 : VRow W4 w1.heap.size 35 tv' ((List.range P.nw).map (fun i => ptr (ts i)) ++ [ptr W2.heap.size])) (q2 : Turns tv.ownBlock.toList W3 W4) => Mm.next (w0 := w1) (W4 := W4) (tv' := tv') (wv' := wv') (ex := ex) HMK.out HP.out.1 HP.out.2.1 HP.out.2.2 HBOX.out HV.out HW.out.2 (by rw [HWV.out]; exact HW.out.1) HINV.out.1 HINV.out.2 hbe k1 hexn lc (by rw [HWV.out]; exact r1) hwx' hG1 hi1 bs H12.out f2 (by rw [HR.out]; exact hi2) (by rw [HR.out]; exact hc2) q1 (by rw [hw3]; exact q2))
                  have hvl : ((List.range P.nw).map fun i => ptr (ts i)).length = P.nw := by simp
                  have HVL := Lib.hid hvl
                  clear hw3 hn hi2 hc2 f2 hi1 lc hexn hwx' hvc hv2 k3 hvl hcis r1
                  generalize hvals : ((List.range P.nw).map fun i => ptr (ts i)) = vals at *
                  clear hvals
                  go_wp2_with (first | (at_builtin; refine wpList_vrow (T := 48) (E := 35) (z := .pointer none) (u := ptr W2.heap.size) (nb := 8) Try.underlying48 (by kernel_rfl) (by omega) rfl rfl hv3 hB3 (by rw [HVL.out]; omega) (by rfl) (.tmp 111) (.tmp 117) rfl rfl rfl ?_; intro tv' W4 r1 r2) | fail)
                  go_roundw
                  case rel => exact ⟨P.nw + 1, by go_num, by omega, F.out _ _ r1 r2⟩
                  case measure => simp [intOf]; omega
                · obtain ⟨P, ts, qs, s, mk, hPt, hPn, hPB, hPp, hbox, hv, hwv, hwx, hinv, hgl⟩ := hS.at_
                  have hbe := hS.be
                  have hnt : n = t := by omega
                  subst hnt
                  subst hPt
                  have hnp := hp.len
                  subst hnp
                  have hWb : w1.heap.size ≤ W.heap.size := hbe.size
                  have hxs := hp.keep (Nat.le_refl _) (b1.trans (hbe.mono b1.size))
                  obtain ⟨TA, tcp, htv⟩ : ∃ A c, tv = .slice A P.nw c := by
                    obtain ⟨A, c, h, _⟩ := hv.slice
                    exact ⟨A, c, by simpa using h⟩
                  subst htv
                  obtain ⟨WA, wcp, hwv'⟩ : ∃ A c, wv = .slice A P.nw c := by
                    obtain ⟨A, c, h, _⟩ := hwv.slice
                    exact ⟨A, c, by simpa using h⟩
                  subst hwv'
                  have h5n : P.nw ≤ 5 := by omega
                  have hG := mk.good
                  have HP := Lib.hid (And.intro hPn (And.intro hPB hPp))
                  have HS := Lib.hid (fun pv ps W4 => Lm.start (np := xs.length) (ps := ps) (pv := pv) (W4 := W4) mk hinv hgl hbox hv hwv hbe hWb)
                  clear mk hinv hgl hbox hv hwv hwx hPn hPB hPp hS
                  go_wp2_with (first | (at_builtin; refine wpList_copyr rfl (.tmp 120) (.tmp 121) rfl rfl rfl hxs (by omega) ?_; intro g0 c0 w2 r2 hc2 t2) | fail)
                  refine (ends_any P.nw h5n _).mono ?_
                  rintro e w3 ⟨v3, rfl, r3, b3⟩
                  obtain ⟨A3, c3, rfl, hr3⟩ := r3.row
                  have r3' : IRow w3 W.heap.size (.slice (some ⟨g0, 0, none⟩) xs.length c0) xs := r2.kept (fun g hg => b3.block g (r2.lt g hg).2)
                  have hB3 : W.heap.size ≤ w3.heap.size := Nat.le_trans t2.size b3.size
                  have bW3 : Below W.heap.size W w3 := (t2.below (by simp) (Nat.le_refl _)).trans (b3.mono t2.size)
                  have hel := endsL_len P.nw
                  have HEL := Lib.hid hel
                  have hll : xs.length + (endsL P.nw).length ≤ 100000 := by omega
                  clear r2 r3 b3 t2 hxs hel
                  go_wp2_with (first | (at_builtin; refine wpList_morer rfl (.tmp 122) (.tmp 125) rfl r3' hc2 hB3 rfl rfl hr3 hll ?_; intro pv w4 r4 b4; obtain ⟨A4, c4, rfl, _⟩ := r4.row; have hL := HS.out _ _ _ r4 (bW3.trans b4); obtain ⟨ps, hps⟩ : ∃ ps, xs ++ endsL P.nw = ps := ⟨_, rfl⟩; rw [hps] at hL ⊢; have HPS := Lib.hid hps; clear r4 b4 bW3 HS hps) | fail)
                  have hpl : ps.length = xs.length + 78 * P.nw := by rw [← HPS.out, List.length_append, HEL.out]
                  have hpl2 : ps.length ≤ 690 := by omega
                  have HPL := Lib.hid hpl
                  clear r3' hB3 hr3 hll hpl hWb hbe hc2
                  go_loopw [22, 23, 128] (fun _ _ i W => ∃ q : Nat, i = .int .i64 (q : Int) ∧ q ≤ ps.length ∧ Lm w1 P h2 w1.heap.size m xs.length ts (.slice TA P.nw tcp) (.slice WA P.nw wcp) (.slice A4 ps.length c4) ps q W) (fun _ _ i _ => ps.length - (intOf i).toNat)
                  case atStart => exact ⟨0, rfl, Nat.zero_le _, hL⟩
                  case round =>
                    clear hL
                    obtain ⟨q, rfl, hqn, hL⟩ := hrel
                    generalize wr = W at *
                    by_cases hq : q < ps.length
                    · obtain ⟨⟨s, qs, d, hx⟩, hr, hbe⟩ := hL
                      have hM := sm_ok P hG
                      obtain ⟨_, hprow⟩ := hr.prow
                      obtain ⟨a, rfl, hab, hcells⟩ := hprow.at_ (by omega)
                      have hcell := hcells q hq
                      have hyw := hprow.wf (ps.getD q 0) (by simp [List.getD, hq])
                      have hyi := i64_of_wf hyw
                      have hyp : xs.length ≤ q → ps.getD q 0 = (((q - xs.length) / 78 : Nat) : Int) := fun h => by
                        rw [← HPS.out]
                        have := endsL_at P.nw (q - xs.length) (by have := HPL.out; omega)
                        simp only [List.getD] at this ⊢
                        rw [List.getElem?_append_right h]
                        exact this
                      have HYP := Lib.hid hyp
                      have hbare := bare_any hG hx.si (A := WA) (cp := wcp) (hr.wrow hx.si) (by omega)
                      obtain ⟨c0, c1', c2'⟩ : W.cell? ⟨h2, 0, none⟩ = some (ptr P.p) ∧ W.cell? ⟨h2, 1, none⟩ = some (.int .i64 0) ∧ W.cell? ⟨h2, 2, none⟩ = some (.func (.func 38) #[] #[]) := ⟨hr.box.l.cell 0, hr.box.l.cell 1, hr.box.l.cell 2⟩
                      have HX := Lib.hid (And.intro hx hr)
                      clear hcells hprow hyp hx hr
                      generalize ps.getD q 0 = y at *
                      go_wp2_with fail
                      refine hbare.mono ?_
                      rintro e W1 ⟨rfl, s1, hi1, e1, e2, e3, _, _, e6, hba, f1⟩
                      obtain ⟨hx, hr⟩ := HX.out
                      have hx1 := hx.bare hi1 e1 e3 e6 f1
                      have f1' : Fr (tsL P.nw ts ++ P.L) P.ws W W1 := f1.more (fun b hb => List.mem_append.2 (.inr hb))
                      have hr1 := hr.fr hx.si hx.tk f1'
                      have bb1 := hx.below hG f1'
                      rw [show 1000 - q = (1000 - (q + 1)) + 1 by omega] at hx1
                      have hba1 : hIx (getA s1.l 0) = -1 → ∀ j, j < P.nw → s1.ba j = true := by rw [e1]; exact hba
                      have hcount := count_any hx1.si.ar
                      have hrun := hx1.run hG hr1 h5n hyw (by omega)
                      obtain ⟨c0, c1', c2'⟩ : W1.cell? ⟨h2, 0, none⟩ = some (ptr P.p) ∧ W1.cell? ⟨h2, 1, none⟩ = some (.int .i64 0) ∧ W1.cell? ⟨h2, 2, none⟩ = some (.func (.func 38) #[] #[]) := ⟨hr1.box.l.cell 0, hr1.box.l.cell 1, hr1.box.l.cell 2⟩
                      have HX1 := Lib.hid (And.intro hx1 (And.intro hr1 (And.intro bb1 hba1)))
                      clear hx hr hx1 hr1 bb1 hba1 hba hi1 e1 e2 e3 e6 f1 f1' hbare HX
                      go_wp2_with fail
                      refine hcount.mono ?_
                      rintro e w9 ⟨rfl, rfl⟩
                      clear hcount
                      go_wp2_with fail
                      refine hrun.mono ?_
                      rintro e W3 ⟨⟨nr, rfl⟩, hra⟩
                      clear hrun
                      obtain ⟨hx1, hr1, bb1, hba1⟩ := HX1.out
                      have k0 : Turns [] W1 (W1.alloc (.cells #[.int .i64 y] 3)) := (Turns.refl _ _).alloc _
                      have hx2 := hx1.turns hG k0
                      have hr2 := hr1.turns hG hx1.si k0
                      obtain ⟨s3, qs3, d3, hx3, hk3⟩ := hx2.pick (by omega) (by omega) hba1 HYP.out hra
                      have hr3 := hr2.fr hx2.si hx2.tk hra.fr
                      have bb3 := hx2.below hG hra.fr
                      have hPB := HP.out.2.1
                      have hsz : w1.heap.size ≤ W1.heap.size := by
                        have h8 : P.B ≤ W1.heap.size := (hM.okw _ _ _ hx1.si).base
                        omega
                      have be3 : Below w1.heap.size w1 W3 := ((hbe.trans (by rw [← hPB]; exact bb1)).trans (k0.below (by simp) hsz)).trans (by rw [← hPB]; exact bb3)
                      have hk0 := hx1.si.ar.k0
                      have hkr := hx1.si.room
                      have hk3' : ¬ (s1.k + 1 < s3.k) := by omega
                      have hwk : IntKind.i64.wrap (s1.k + 1) = s1.k + 1 := by rw [IntKind.wrap_i64]; omega
                      have hcount := count_any hx3.si.ar
                      have hbare := bare_any hG hx3.si (A := WA) (cp := wcp) (hr3.wrow hx3.si) (by omega)
                      obtain ⟨c0, c1', c2'⟩ : W3.cell? ⟨h2, 0, none⟩ = some (ptr P.p) ∧ W3.cell? ⟨h2, 1, none⟩ = some (.int .i64 0) ∧ W3.cell? ⟨h2, 2, none⟩ = some (.func (.func 38) #[] #[]) := ⟨hr3.box.l.cell 0, hr3.box.l.cell 1, hr3.box.l.cell 2⟩
                      have HX3 := Lib.hid (And.intro hx3 (And.intro hr3 be3))
                      clear hx1 hr1 bb1 hba1 k0 hx2 hr2 hx3 hr3 bb3 be3 hra hk3 HX1 hPB hsz hk0 hkr
                      go_wp2_with fail
                      refine hcount.mono ?_
                      rintro e w9 ⟨rfl, rfl⟩
                      clear hcount
                      go_wp2_with fail
                      refine hbare.mono ?_
                      rintro e W4 ⟨rfl, s4, hi4, e1, e2, e3, _, _, e6, hba, f1⟩
                      obtain ⟨hx3, hr3, be3⟩ := HX3.out
                      have hx4 := hx3.bare hi4 e1 e3 e6 f1
                      have f1' : Fr (tsL P.nw ts ++ P.L) P.ws W3 W4 := f1.more (fun b hb => List.mem_append.2 (.inr hb))
                      have hr4 := hr3.fr hx3.si hx3.tk f1'
                      have bb4 := hx3.below hG f1'
                      have hPB := HP.out.2.1
                      have F : Lm w1 P h2 w1.heap.size m xs.length ts (.slice TA P.nw tcp) (.slice WA P.nw wcp) (.slice (some a) ps.length c4) ps (q + 1) W4 := ⟨⟨s4, qs3, d3, hx4⟩, hr4, be3.trans (by rw [← hPB]; exact bb4)⟩
                      clear hx3 hr3 be3 hx4 f1' hr4 bb4 hPB hi4 e1 e2 e3 e6 hba f1 HX3 hbare c0 c1' c2'
                      go_wp2_with fail
                      go_roundw
                      case rel => exact ⟨q + 1, by go_num, by omega, F⟩
                      case measure => simp [intOf]; omega
                    · obtain rfl : q = ps.length := by omega
                      obtain ⟨⟨s, qs, d, hx⟩, hr, hbe⟩ := hL
                      have hM := sm_ok P hG
                      have hPB := HP.out.2.1
                      have hPn := HP.out.1
                      have hend : ∀ j, j < P.nw → (SM P).ended (qs j) = true := by
                        have h := (hx.fin (by have := HPL.out; omega)).1
                        exact fun j hj => h j hj (by have := HPL.out; omega)
                      obtain ⟨tl, hgl⟩ := hx.gl
                      have hHl : ∀ j, j ≤ P.nw → (allH j s.hs).length ≤ m := fun j hj => by
                        have h1 := allH_le (hs := s.hs) P.nw hj
                        have h2 := hgl.perm.length_eq
                        rw [List.length_append, upto_length] at h2
                        omega
                      have hD := Ld.start hx hr hbe
                      have HG := Lib.hid (And.intro hend (And.intro hgl hHl))
                      generalize hrr : 1000 - ps.length = r at *
                      clear hx hr hbe hgl hend hHl hrr
                      go_wp2_with fail
                      go_loopw [24, 25, 26, 154] (fun hv _ _ i W => ∃ j : Nat, i = .int .i64 (j : Int) ∧ j ≤ P.nw ∧ Ld w1 P h2 w1.heap.size r ts (.slice TA P.nw tcp) (.slice WA P.nw wcp) s qs d hv j W) (fun _ _ _ i _ => P.nw - (intOf i).toNat)
                      case atStart => exact ⟨0, rfl, Nat.zero_le _, hD⟩
                      case round =>
                        clear hD
                        obtain ⟨j, rfl, hjn, hD⟩ := hrel
                        generalize wr = W at *
                        generalize u24 = hv at *
                        by_cases hj : j < P.nw
                        · obtain ⟨hend, hgl, hHl⟩ := HG.out
                          obtain ⟨g1, hg1, t1⟩ := hD.tv.at_ hj
                          obtain ⟨g2, hg2, t2⟩ := hD.wv.at_ hj
                          subst hg1
                          subst hg2
                          obtain ⟨A5, c5, hl5, hr5⟩ := hD.si.hands hG hj
                          have hended := ended_g (hD.tk j hj)
                          rw [hend j hj] at hended
                          have d0 : W.cell? ⟨P.wb j, 0, none⟩ = some (.slice A5 (s.hs j).length c5) := hl5.cell 0
                          have d4 : W.cell? ⟨P.wb j, 4, none⟩ = some (.bool false) := by rw [← hgl.wr j hj]; exact hl5.cell 4
                          have hBW : w1.heap.size ≤ W.heap.size := hD.be.size
                          have hhd := hD.hd
                          have hsi := hD.si
                          have hlen : (allH j s.hs).length + (s.hs j).length ≤ 10000 := by
                            have := hHl (j + 1) (by omega)
                            rw [allH_succ, List.length_append] at this
                            omega
                          have HN := Lib.hid (fun hv' W' l t => Ld.next (hv' := hv') (W' := W') hG hD l t hBW)
                          clear hend hgl hHl hl5 hD
                          go_wp2_with fail
                          refine hended.mono ?_
                          rintro e w9 ⟨rfl, rfl⟩
                          clear hended
                          go_wp2_with (first | (at_builtin; refine wpList_held hG hsi hhd hBW rfl (.tmp 171) (.tmp 178) rfl rfl rfl hr5 hlen ?_; intro hv' W' l1 l2 _) | fail)
                          go_roundw
                          case rel => exact ⟨j + 1, by go_num, by omega, HN.out _ _ l1 l2⟩
                          case measure => simp [intOf]; omega
                        · obtain rfl : j = P.nw := by omega
                          obtain ⟨_, hgl, _⟩ := HG.out
                          have hlst := hD.si.lists hG (fun _ => True) trivial
                          rw [hgl.told (by omega)] at hlst
                          obtain ⟨A6, c6, rfl, hr6⟩ := hD.hd.row.row
                          obtain ⟨c0, c1', c2'⟩ : W.cell? ⟨h2, 0, none⟩ = some (ptr P.p) ∧ W.cell? ⟨h2, 1, none⟩ = some (.int .i64 0) ∧ W.cell? ⟨h2, 2, none⟩ = some (.func (.func 38) #[] #[]) := ⟨hD.box.l.cell 0, hD.box.l.cell 1, hD.box.l.cell 2⟩
                          have hbe := hD.be
                          have hperm := hgl.perm
                          clear hD hgl
                          go_wp2_with fail
                          refine hlst.mono ?_
                          rintro e W2 ⟨u, rfl, hru, b2, _⟩
                          obtain ⟨A7, c7, rfl, hr7⟩ := hru.row
                          have heach := each_any A7 A6 c7 c6 tl (allH P.nw s.hs) m W2 hr7 (hr6.keep (Nat.le_refl _) b2) hperm (by omega)
                          clear hlst hru hr6 hr7 hperm c0 c1' c2'
                          go_wp2_with fail
                          refine heach.mono ?_
                          rintro e W3 ⟨rfl, b3⟩
                          clear heach
                          go_wp2
                          go_ret
                          exact ⟨rfl, b1.trans ((hbe.trans ((b2.trans (b3.mono b2.size)).mono hbe.size)).mono b1.size)⟩

theorem many8_nat (a : Int) (A : Option Addr) (n cp : Nat) (bss : List (List Bool)) (PA : Option Addr) (np pcp : Nat) (xs : List Int) (w : World) (ha : 0 ≤ a ∧ a < 256) (hbss : bss.length = n) (hg : BGrid w A bss) (hp : Row w .i64 PA np xs) :
    Calls Try.prog 4 #[.int .u8 a, .slice A n cp, .slice PA np pcp] w fun e w' => e = .returned (.bool true) ∧ Below w.heap.size w w' := by
  obtain ⟨x, rfl⟩ := Int.eq_ofNat_of_zero_le ha.1
  exact many8 x (by omega) A n cp bss hbss PA np pcp xs w hg hp

end Go.Proofs.Ythjbmaeoogophaa
