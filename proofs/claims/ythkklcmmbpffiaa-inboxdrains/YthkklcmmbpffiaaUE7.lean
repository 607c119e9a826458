/- The inbox: tasks made one by one, while the law's own row of numbers grows, in place. -/
import Derived.Test.YthkklcmmbpffiaaUE6
import Derived.StillTailTactics
namespace Go.Proofs.Ythkklcmmbpffiaa
open Go.RowKit Go.ChangeShapes Go.WideShapes
set_option maxRecDepth 100000

/-- nothing is appended to nothing. -/
theorem wpList_nil_zero {P : Program} {w : World} {ops : Array Oper} {rest : List Oper} {o : Oper} {a : Act} {Q : Exit → Act → World → Prop} (hgd : o.guard = none) (s x : Operand) (t : TypeId)
    (ho : o.op = .call { callee := .builtin .append, args := #[s, x], argTypes := #[t, t] })
    (e : TypeId) (i : TypeInfo) (ht : P.underlying t = some (.slice e)) (hi : P.info? e = some i)
    (A : Option Addr) (c : Nat) (hs : a.eval s = .slice none 0 0) (hx : a.eval x = .slice A 0 c)
    (h : wpList P ops Q rest (a.put o.dst (.slice none 0 0)) w) : wpList P ops Q (o :: rest) a w := by
  refine wpList_plain hgd fun K hK => ?_
  have hrun : (Builtin.append_ #[t, t] o.type #[.slice none 0 0, .slice A 0 c]).run P w = .ok (.slice none 0 0) w := by
    cases A <;> simp [Builtin.append_, run_underlying ht, sizeOf, typeInfo, hi, Builtin.lenOf, Builtin.firstCells, loadCells, loadCellsFrom]
  unfold Oper.wp
  simp [execOp, ho, resolve, invoke, builtin, hs, hx, hrun, Result.andThen]
  exact hK _ _ h
theorem IRow.shape {W : World} {B : Nat} {v : Value} {xs : List Int} (h : IRow W B v xs) : (v = .slice none 0 0 ∧ xs = []) ∨ ∃ g cap, v = .slice (some ⟨g, 0, none⟩) xs.length cap ∧ xs.length ≤ cap := by
  rcases h.own.2 with ⟨h1, h2⟩ | ⟨g, cap, cur, h1, _, _, h3, _⟩
  · exact .inl ⟨h1, List.length_eq_zero_iff.1 h2⟩
  · exact .inr ⟨g, cap, h1, h3⟩
/-- a row is appended to a row. -/
theorem wpList_more {W : World} {B B' : Nat} {xs ys : List Int} {v u : Value} {ops : Array Oper} {rest : List Oper} {o : Oper} {a : Act} {Q : Exit → Act → World → Prop} (hgd : o.guard = none) (s x : Operand) (ho : o.op = .call { callee := .builtin .append, args := #[s, x], argTypes := #[31, 31] })
    (hs : a.eval s = v) (hx : a.eval x = u) (hv : IRow W B v xs) (hu : IRow W B' u ys) (hl : xs.length + ys.length ≤ 10000) (hB : B ≤ W.heap.size)
    (hK : ∀ v' w', IRow w' B v' (xs ++ ys) → Turns v.ownBlock.toList W w' → (∀ b, v'.ownBlock = some b → v.ownBlock = some b ∨ W.heap.size ≤ b) → wpList Try.prog ops Q rest (a.put o.dst v') w') : wpList Try.prog ops Q (o :: rest) a W := by
  obtain ⟨i0, hi0, hz0, hz1, hz2⟩ := info_parts int_info4
  obtain ⟨A, c, hue, hur⟩ := hu.row
  by_cases hn : ys.length = 0
  · obtain rfl := List.length_eq_zero_iff.1 hn
    have hk := hK v W (by rw [List.append_nil]; exact hv) (Turns.refl _ _) (fun b hb => .inl hb)
    rcases hv.shape with ⟨rfl, _⟩ | ⟨g, cap, rfl, hc⟩
    · exact wpList_nil_zero hgd s x 31 ho 3 i0 Try.underlying31 hi0 A c hs (hx.trans hue) hk
    · exact wpList_append_zero hgd s x 31 ho 3 i0 Try.underlying31 hi0 ⟨g, 0, none⟩ _ cap A c hc hs (hx.trans hue) hk
  · obtain ⟨ad, rfl, hab, hcell⟩ := hur.at_ (by omega)
    have hyl := hur.len
    refine wpList_append_lies _ hgd s x 31 ho B 3 i0 _ 1 8 Try.underlying31 hi0 hz0 hz1 hz2 rfl (by omega) v xs.length (xs.map (Value.int .i64)) hs hv.own ad ys.length c (ys.map (Value.int .i64)) (hx.trans hue) (by simp) ?_ ?_ (by omega) (by simp only [maxLen]; omega) (by omega) hB _ rfl ?_
    · intro j u hu
      rw [List.getElem?_map] at hu
      obtain ⟨y, hy, rfl⟩ := Option.map_eq_some_iff.1 hu
      have hj : j < ys.length := (List.getElem?_eq_some_iff.1 hy).1
      rw [hcell j hj]
      simp [List.getD, hy]
    · intro u hu
      obtain ⟨j, _, rfl⟩ := List.mem_map.1 hu
      rfl
    · intro g cap w' h1 h2 h3 _
      rw [← List.map_append, ← List.length_append] at h1
      refine hK _ _ ⟨by rw [List.length_append] at h1 ⊢; exact h1, hv.ints.app hur.wf⟩ ⟨h2.os, h2.tape, h2.output, h2.size, fun b hb hm => h2.block b hb (fun e => hm (by rw [← e]; simp))⟩ (fun b hb => ?_)
      simp [Value.ownBlock] at hb
      subst hb
      exact h3.imp id (fun h => by omega)

/-- the same machine; the law may write these blocks between steps. -/
def BP.wide (P : BP) (ex : List Nat) : BP := { P with ex := ex }
section
variable {P : BP} {r B : Nat} {s : BSt} {W W' : World} {K ex : List Nat}
theorem BP.Good.wide (h : P.Good) (ex : List Nat) : (P.wide ex).Good := ⟨h.low, h.sep, h.few⟩
theorem BI.wide (h : BI P r s W) (he : ∀ b, b ∈ ex → b < W.heap.size) : BI (P.wide ex) r s W := ⟨h.ar, h.room, h.ok, h.ow, h.hg, h.he, h.size, he⟩
theorem BI.narrow (h : BI (P.wide ex) r s W) (hP : P.ex = []) : BI P r s W := ⟨h.ar, h.room, h.ok, h.ow, h.hg, h.he, h.size, fun b hb => by rw [hP] at hb; cases hb⟩
theorem Mv.wide {B : Nat} {L L' : List Nat} {ws : List Addr} (k : Mv B L ws W W') (hs : ∀ b, b ∈ L → b ∈ L') : Mv B L' ws W W' := ⟨k.os, k.tape, k.output, k.size, fun b hb hn hr => k.block b hb (fun hm => hn (hs b hm)) hr, k.rows⟩
theorem Code.narrow (hP : P.ex = []) : ∀ {m : Nat} {q : BPr} {v : Value} {W : World}, (∀ b, b ∈ ex → b < W.heap.size) → (BM (P.wide ex)).Code m q v W → (BM P).Code m q v W
  | 0, _, _, _, _, h => h
  | m + 1, q, v, W, he, h => by
    rcases h with h | ⟨h, g, cap, e, hE, hs⟩
    · exact .inl h
    · refine .inr ⟨h, g, cap, e, hE, fun w' s r hm hi hw => ?_⟩
      have hm' : Mv P.B (P.L ++ P.ex) P.ws W w' := hm
      have h1 := hs w' s r (hm'.wide (fun b hb => by
        rw [hP, List.append_nil] at hb
        exact List.mem_append.2 (.inl hb))) (BI.wide (P := P) hi fun b hb => Nat.lt_of_lt_of_le (he b hb) hm'.size) hw
      unfold Gm.Then at h1 ⊢
      refine h1.mono ?_
      rintro e' w2 ⟨v2, he2, ⟨q1, q2⟩, hf⟩
      have hf' : Fr P.L P.ws w' w2 := hf
      exact ⟨v2, he2, ⟨BI.narrow (P := P) q1 hP, Code.narrow hP (fun b hb => Nat.lt_of_lt_of_le (Nat.lt_of_lt_of_le (he b hb) hm'.size) hf'.size) q2⟩, hf'⟩
theorem Mv.past {B : Nat} {L : List Nat} {ws : List Addr} {a w w' : World} (h : Mv B L ws a w) (t : Turns K w w') (hK : ∀ b, b ∈ K → b ∈ L ∨ a.heap.size ≤ b ∨ IsTask B w b) (hc : ∀ x, x ∈ ws → x.block < w.heap.size ∧ x.block ∉ K) : Mv B L ws a w' :=
  ⟨t.os.trans h.os, t.tape.trans h.tape, t.output.trans h.output, Nat.le_trans h.size t.size, fun b hb hn hr => by
    rcases h.block b hb hn hr with e | t1
    · by_cases hm : b ∈ K
      · rcases hK b hm with h1 | h1 | h1
        · exact absurd h1 hn
        · omega
        · exact .inr (h1.of_same e.symm)
      · exact .inl ((t.block b (Nat.lt_of_lt_of_le hb h.size) hm).trans e)
    · exact .inr t1, fun b hb q => h.rows b hb (q.same fun x hx => t.cell (hc x hx).1 (hc x hx).2)⟩
end

/-- tasks that were made, each under a machine of its own: what others may write between steps is the block g, or was made later. -/
structure Lz9 (P : BP) (g : List Nat) (r N : Nat) (ts : Nat → Nat) (qs : Nat → BPr) (tv : Value) (W : World) : Prop where
  tk : ∀ k, k < N → ∃ v w0 ex, Lies W (ts k) 89 #[v, .int .i64 0] ∧ (BM (P.wide ex)).Code r (qs k) v w0 ∧ (∀ b, b ∈ ex → b < w0.heap.size) ∧ Mv P.B (P.L ++ ex) P.ws w0 W ∧ P.B ≤ ts k ∧ ∀ b, b ∈ g → b ∈ ex ∨ w0.heap.size ≤ b
  inj : ∀ i j, i < N → j < N → ts i = ts j → i = j
  tv : VRow W P.B 35 tv ((List.range N).map fun k => ptr (ts k))
section
variable {P : BP} {r N : Nat} {s : BSt} {g g' K : List Nat} {ts : Nat → Nat} {qs : Nat → BPr} {tv tv' : Value} {W W' : World}
theorem BI.wsOut (h : BI P r s W) (hK : ∀ b, b ∈ K → ∃ t cs, Lies W b t cs ∧ t ≠ 72) : ∀ x, x ∈ P.ws → x.block < W.heap.size ∧ x.block ∉ K := fun x hx => by
  obtain ⟨v, u, hl, _⟩ := h.ow
  have : x.block = P.ob := by rcases BP.ws_mem.1 hx with rfl | rfl <;> rfl
  rw [this]
  refine ⟨hl.lt, fun hm => ?_⟩
  obtain ⟨t, cs, h1, h2⟩ := hK _ hm
  exact h1.unlike hl h2 rfl
/-- others' blocks, and new ones. -/
theorem Lz9.grow (hi : BI P r s W) {r' : Nat} (h : Lz9 P g r' N ts qs tv W) (t : Turns K W W') (hK : ∀ b, b ∈ K → b ∈ g ∧ ∃ cs, Lies W b 3 cs) (hg' : ∀ b, b ∈ g' → b ∈ g ∨ W.heap.size ≤ b) : Lz9 P g' r' N ts qs tv W' := by
  have hws := hi.wsOut (K := K) fun b hb => by
    obtain ⟨_, cs, h1⟩ := hK b hb
    exact ⟨_, _, h1, by decide⟩
  refine ⟨fun k hk => ?_, h.inj, h.tv.turns t fun b hb => fun hm => ?_⟩
  · obtain ⟨v, w0, ex, h1, h2, h3, h4, h5, h6⟩ := h.tk k hk
    have ne : ts k ∉ K := fun hm => by
      obtain ⟨_, cs, hl⟩ := hK _ hm
      exact hl.unlike h1 (by decide) rfl
    refine ⟨v, w0, ex, h1.turn t ne, h2, h3, h4.past t (fun b hb => ?_) hws, h5, fun b hb => ?_⟩
    · rcases h6 b (hK b hb).1 with h7 | h7
      · exact .inl (List.mem_append.2 (.inr h7))
      · exact .inr (.inl h7)
    · rcases hg' b hb with h7 | h7
      · exact h6 b h7
      · exact .inr (Nat.le_trans h4.size h7)
  · obtain ⟨_, cur, hl⟩ := h.tv.lies hb
    obtain ⟨_, cs, h1⟩ := hK _ hm
    exact hl.unlike h1 (by decide) rfl
theorem Lz9.turns (hi : BI P r s W) {r' : Nat} (h : Lz9 P g r' N ts qs tv W) (t : Turns [] W W') : Lz9 P g r' N ts qs tv W' := h.grow hi t (by simp) fun b hb => .inl hb
/-- all under one machine. -/
theorem Lz9.all (hi : BI P r s W) (hP : P.ex = []) {r' : Nat} (h : Lz9 P g r' N ts qs tv W) : Tk9 P r' N ts qs tv W := by
  refine ⟨fun k hk => ?_, h.inj, h.tv⟩
  obtain ⟨v, w0, ex, h1, h2, h3, h4, h5, h6⟩ := h.tk k hk
  obtain ⟨a1, a2⟩ := hi.apart_ty h1 (by decide) (by decide) (by decide) (by decide)
  have h7 : (BM (P.wide ex)).Code r' (qs k) v W := h2.mv h4
  exact ⟨⟨v, h1, Code.narrow hP (fun b hb => Nat.lt_of_lt_of_le (h3 b hb) h4.size) h7⟩, a1, h5, a2⟩
end

/-- the drain's task is made, and those of i others; the law's row has xs. -/
structure Mm9 (w0 : World) (P : BP) (bx ba bn D : Nat) (m : Nat → Nat) (s0 : BSt) (i : Nat) (av : Value) (xs : List Int) (tv : Value) (W : World) : Prop where
  at_ : ∃ ts, Lz9 P av.ownBlock.toList 3600 (i + 1) ts (qsF D m) tv W
  si : BI P 3600 s0 W
  ctx : BCtx P bx ba bn W
  be : Below P.B w0 W
  nor : ∀ b, ¬ Rw P.ws W b
  all : IRow W P.B av xs
  nbn : av.ownBlock ≠ some bn
section
variable {w0 : World} {P : BP} {bx ba bn D i : Nat} {m : Nat → Nat} {s0 : BSt} {tv tv' v cv av av' : Value} {xs xs' : List Int} {W W1 W2 W4 : World}
theorem Mm9.grow (hG : P.Good) (h : Mm9 w0 P bx ba bn D m s0 i av xs tv W) (t : Turns av.ownBlock.toList W W1) (ha : IRow W1 P.B av' xs') (hg : ∀ b, av'.ownBlock = some b → av.ownBlock = some b ∨ W.heap.size ≤ b) : Mm9 w0 P bx ba bn D m s0 i av' xs' tv W1 := by
  have hK : ∀ b, b ∈ av.ownBlock.toList → P.B ≤ b ∧ ∃ cs, Lies W b 3 cs := fun b hb => own_block h.all.own (by simpa using hb)
  have hKi : ∀ b, b ∈ av.ownBlock.toList → b ∉ P.L ∧ ¬ Rw P.ws W b := fun b hb => by
    obtain ⟨_, cs, hl⟩ := hK b hb
    exact ⟨h.si.apart_int hl, h.nor b⟩
  have out : ∀ {b : Nat} {ty : TypeId} {cs : Array Value}, Lies W b ty cs → ty ≠ 3 → b ∉ av.ownBlock.toList := fun hl hx hm => by
    obtain ⟨_, cs, h2⟩ := hK _ hm
    exact hl.unlike h2 hx rfl
  have hbase : P.B ≤ W.heap.size := ((bm_ok P hG).okw _ _ _ h.si).base
  obtain ⟨ts, hts⟩ := h.at_
  refine ⟨⟨ts, hts.grow h.si t (fun b hb => ⟨hb, (hK b hb).2⟩) fun b hb => ?_⟩, h.si.turns t hKi, h.ctx.turns hG h.si t (fun c hc => (hKi c hc).1) ⟨out h.ctx.box.l (by decide), out h.ctx.xa.l (by decide), fun hm => h.nbn (by simpa using hm)⟩, h.be.trans (t.below (fun b hb => (hK b hb).1) hbase), fun b q => h.nor b (BI.rows_turns hG h.si t (fun c hc => (hKi c hc).1) q), ha, fun e => ?_⟩
  · have := hg b (by simpa using hb)
    exact this.imp (fun h1 => by simpa using h1) id
  · rcases hg _ e with h1 | h1
    · exact h.nbn h1
    · have := h.ctx.xn.l.lt
      omega
theorem Mm9.turns (hG : P.Good) (h : Mm9 w0 P bx ba bn D m s0 i av xs tv W) (t : Turns [] W W1) : Mm9 w0 P bx ba bn D m s0 i av xs tv W1 :=
  h.grow hG (t.more (by simp)) (h.all.kept fun g hg => t.block g (h.all.lt g hg).2 (by simp)) fun b hb => .inl hb
theorem Mm9.wide (_ : P.Good) (h : Mm9 w0 P bx ba bn D m s0 i av xs tv W) : BI (P.wide av.ownBlock.toList) 3600 s0 W ∧ BCtx (P.wide av.ownBlock.toList) bx ba bn W := by
  have hK : ∀ b, b ∈ av.ownBlock.toList → P.B ≤ b ∧ ∃ cs, Lies W b 3 cs := fun b hb => own_block h.all.own (by simpa using hb)
  have out : ∀ {b : Nat} {ty : TypeId} {cs : Array Value}, Lies W b ty cs → ty ≠ 3 → b ∉ av.ownBlock.toList := fun hl hx hm => by
    obtain ⟨_, cs, h2⟩ := hK _ hm
    exact hl.unlike h2 hx rfl
  refine ⟨h.si.wide fun b hb => ?_, ⟨⟨h.ctx.box.l, h.ctx.box.out, h.ctx.box.row, h.ctx.box.ty, out h.ctx.box.l (by decide)⟩, ⟨h.ctx.xa.l, h.ctx.xa.out, h.ctx.xa.row, h.ctx.xa.ty, out h.ctx.xa.l (by decide)⟩, ⟨h.ctx.xn.l, h.ctx.xn.out, h.ctx.xn.row, h.ctx.xn.ty, fun hm => h.nbn ?_⟩⟩⟩
  · obtain ⟨_, cs, h2⟩ := hK _ hb
    exact h2.lt
  · have hm : bn ∈ av.ownBlock.toList := hm
    simpa using hm
/-- code that puts, whatever the law does to its row. -/
theorem Mm9.puts (hG : P.Good) (hP : P.n = 20) (h : Mm9 w0 P bx ba bn D m s0 i av xs tv W) (hi4 : i < 4) (hm : ∀ k, m k ≤ 5) {B : Nat} (hr : IRow W B v (upB (5 * i) (m i))) (hne : ∀ g, v.ownBlock = some g → av.ownBlock ≠ some g) : ∃ A cp, v = .slice A (m i) cp ∧ m i ≤ cp ∧ ∀ W2, Turns [] W W2 → (BM (P.wide av.ownBlock.toList)).Makes 3600 (startP (upB (5 * i) (m i))) 30 #[bxP P #[ptr ba, ptr bn], .slice A (m i) cp, .nilFunc] W2 := by
  obtain ⟨hi1, hx1⟩ := h.wide hG
  have hG1 := hG.wide av.ownBlock.toList
  have hmi := hm i
  obtain ⟨A, cp, e, hle, hil⟩ := IL.of_irow hr hi1 (by rw [upB_length]; omega) (fun g hg => ⟨fun hm => hne g hg (by have hm : g ∈ av.ownBlock.toList := hm; simpa using hm), h.nor g⟩)
  have hl := upB_length (5 * i) (m i)
  rw [hl] at e hle
  refine ⟨A, cp, e, hle, fun W2 t2 => ?_⟩
  have hp := puts_g hG1 (ba := ba) (bn := bn) 3600 (upB (5 * i) (m i)) (fun x hx => by have := upB_mem.1 hx; show 0 ≤ x ∧ x < (P.n : Int); rw [hP]; omega) A cp W2 3600 s0 (by rw [hl]; exact hle) (hi1.turns t2 (by simp)) (hil.mv (((bm_ok _ hG1).okw _ _ _ hi1).mv (bm_ok _ hG1) t2)) (hx1.turns hG1 hi1 t2 (by simp) (by simp)).xa (hx1.turns hG1 hi1 t2 (by simp) (by simp)).xn
  rw [hl] at hp
  exact hp
theorem Mm9.next (hG : P.Good) (h : Mm9 w0 P bx ba bn D m s0 i av xs tv W) (t : Turns [] W W2) (hc : (BM (P.wide av.ownBlock.toList)).Code 3600 (startP (upB (5 * i) (m i))) cv W2) {ts : Nat → Nat} (hts : Lz9 P av.ownBlock.toList 3600 (i + 1) ts (qsF D m) tv W) (hv4 : VRow W4 P.B 35 tv' ((List.range (i + 1)).map (fun k => ptr (ts k)) ++ [ptr W2.heap.size])) (t4 : Turns tv.ownBlock.toList (W2.alloc (.cells #[cv, .int .i64 0] 89)) W4) : Mm9 w0 P bx ba bn D m s0 (i + 1) av xs tv' W4 := by
  have hM := bm_ok P hG
  have k3 : Turns [] W2 (W2.alloc (.cells #[cv, .int .i64 0] 89)) := (Turns.refl _ _).alloc _
  have lt : Lies (W2.alloc (.cells #[cv, .int .i64 0] 89)) W2.heap.size 89 #[cv, .int .i64 0] := Lies.new _ _ _
  have h2 := h.turns hG t
  have h3 := h2.turns hG k3
  have ht3 := (hts.turns h.si t).turns h2.si k3
  have hwd := (h2.wide hG).1
  have m23 : Mv P.B (P.L ++ av.ownBlock.toList) P.ws W2 (W2.alloc (.cells #[cv, .int .i64 0] 89)) := ((bm_ok _ (hG.wide av.ownBlock.toList)).okw _ _ _ hwd).mv (bm_ok _ (hG.wide av.ownBlock.toList)) k3
  have hB2 : P.B ≤ W2.heap.size := (hM.okw _ _ _ h2.si).base
  obtain ⟨he2, _⟩ := h2.wide hG
  have hex := he2.exl
  generalize (W2.alloc (.cells #[cv, .int .i64 0] 89)) = W3 at *
  have hK : ∀ b, b ∈ tv.ownBlock.toList → IsTask P.B W3 b := fun b hb => by
    obtain ⟨h1, cur, h2⟩ := ht3.tv.lies (g := b) (by simpa using hb)
    exact ⟨h1, _, _, by decide, h2⟩
  have hKl : ∀ b, b ∈ tv.ownBlock.toList → ∃ cs, Lies W3 b 35 cs := fun b hb => by
    obtain ⟨_, cur, h2⟩ := ht3.tv.lies (g := b) (by simpa using hb)
    exact ⟨_, h2⟩
  have ne : ∀ {b : Nat} {ty : TypeId} {cs : Array Value}, Lies W3 b ty cs → ty ≠ 35 → b ∉ tv.ownBlock.toList := fun hl hx hm => by
    obtain ⟨cs, h2⟩ := hKl _ hm
    exact hl.unlike h2 hx rfl
  have hws := h3.si.wsOut (K := tv.ownBlock.toList) fun b hb => by
    obtain ⟨cs, h1⟩ := hKl b hb
    exact ⟨_, _, h1, by decide⟩
  have hKo : ∀ b, b ∈ tv.ownBlock.toList → b ∉ P.L ∧ ¬ Rw P.ws W3 b := fun b hb => by
    obtain ⟨cs, h1⟩ := hKl b hb
    exact h3.si.apart_ty h1 (by decide) (by decide) (by decide) (by decide)
  refine ⟨⟨updF ts (i + 1) W2.heap.size, fun k hk => ?_, fun a b ha hb e => ?_, ?_⟩, h3.si.turns t4 hKo, h3.ctx.turns hG h3.si t4 (fun c hc => (hKo c hc).1) ⟨ne h3.ctx.box.l (by decide), ne h3.ctx.xa.l (by decide), ne h3.ctx.xn.l (by decide)⟩, h3.be.trans (t4.below (fun b hb => (hK b hb).1) (hM.okw _ _ _ h3.si).base), fun b q => h3.nor b (BI.rows_turns hG h3.si t4 (fun c hc => (hKo c hc).1) q), h3.all.kept fun g hg => ?_, h3.nbn⟩
  · by_cases e : k = i + 1
    · subst e
      rw [updF_same]
      exact ⟨cv, W2, av.ownBlock.toList, lt.turn t4 (ne lt (by decide)), hc, hex, m23.past t4 (fun b hb => .inr (.inr (hK b hb))) hws, hB2, fun b hb => .inl hb⟩
    · rw [updF_ne _ _ e]
      obtain ⟨v, w1, ex, h1, h2, h3, h4, h5, h6⟩ := ht3.tk k (by omega)
      exact ⟨v, w1, ex, h1.turn t4 (ne h1 (by decide)), h2, h3, h4.past t4 (fun b hb => .inr (.inr (hK b hb))) hws, h5, h6⟩
  · have hlt : ∀ k, k < i + 1 → ts k < W2.heap.size := fun k hk => by
      obtain ⟨v, w1, ex, h1, _⟩ := (hts.turns h.si t).tk k hk
      exact h1.lt
    by_cases e1 : a = i + 1 <;> by_cases e2 : b = i + 1
    · omega
    · rw [e1, updF_same, updF_ne _ _ e2] at e
      have := hlt b (by omega)
      omega
    · rw [e2, updF_same, updF_ne _ _ e1] at e
      have := hlt a (by omega)
      omega
    · rw [updF_ne _ _ e1, updF_ne _ _ e2] at e
      exact hts.inj a b (by omega) (by omega) e
  · rw [List.range_succ, List.map_append]
    have e : (List.range (i + 1)).map (fun k => ptr (updF ts (i + 1) W2.heap.size k)) = (List.range (i + 1)).map (fun k => ptr (ts k)) := List.map_congr_left fun k hk => by
      have := List.mem_range.1 hk
      rw [updF_ne _ _ (by omega)]
    rw [e, List.map_singleton, updF_same]
    exact hv4
  · obtain ⟨_, cur, hl⟩ := own_block h3.all.own hg
    exact t4.block g hl.lt (ne hl (by decide))
/-- the first one. -/
theorem Mm9.first (hG : P.Good) (hP : P.ex = []) (hi : BI P 3600 s0 W) (hx : BCtx P bx ba bn W) (be : Below P.B w0 W) (nor : ∀ b, ¬ Rw P.ws W b) (hc : (BM P).Code 3600 (startD D) v W) :
    Mm9 w0 P bx ba bn D m s0 0 (.slice none 0 0) [] (.slice (some ⟨W.heap.size + 1, 0, none⟩) 1 1) ((W.alloc (.cells #[v, .int .i64 0] 89)).alloc (.cells #[ptr W.heap.size] 35)) := by
  have hT := Tk9.first hG hi hc
  have hM := bm_ok P hG
  have k : Turns [] W ((W.alloc (.cells #[v, .int .i64 0] 89)).alloc (.cells #[ptr W.heap.size] 35)) := ((Turns.refl _ _).alloc _).alloc _
  have lt : Lies ((W.alloc (.cells #[v, .int .i64 0] 89)).alloc (.cells #[ptr W.heap.size] 35)) W.heap.size 89 #[v, .int .i64 0] := (Lies.new _ _ _).alloc _
  generalize ((W.alloc (.cells #[v, .int .i64 0] 89)).alloc (.cells #[ptr W.heap.size] 35)) = W' at *
  have hw := hM.okw _ _ _ hi
  refine ⟨⟨fun _ => W.heap.size, fun k' hk => ⟨v, W, [], lt, ?_, by simp, ?_, hw.base, fun b hb => by simp [Value.ownBlock] at hb⟩, hT.inj, hT.tv⟩, hi.turns k (by simp), hx.turns hG hi k (by simp) (by simp), be.trans (k.below (by simp) hw.base), fun b q => nor b (BI.rows_turns hG hi k (by simp) q), IRow.nil _ _, by simp [Value.ownBlock]⟩
  · obtain rfl : k' = 0 := by omega
    have e : P.wide [] = P := by unfold BP.wide; rw [← hP]
    rw [e]
    exact hc
  · have := hw.mv hM k
    have h2 : Mv P.B (P.L ++ P.ex) P.ws W W' := this
    rw [hP] at h2
    exact h2
/-- all are made. -/
theorem Mm9.done (h : Mm9 w0 P bx ba bn D m s0 i av xs tv W) (hP : P.ex = []) : ∃ ts, Tk9 P 3600 (i + 1) ts (qsF D m) tv W := by
  obtain ⟨ts, hts⟩ := h.at_
  exact ⟨ts, hts.all h.si hP⟩
end

end Go.Proofs.Ythkklcmmbpffiaa

/- The inbox's putters that tell: what 'done' does. -/
namespace Go.Proofs.Ythkklcmmbpffiaa
open Go.RowKit Go.ChangeShapes Go.WideShapes
set_option maxRecDepth 100000

theorem steps_lies {t : Nat} {v : Value} {d : Nat} {w : World} (h : Lies w t 89 #[v, .int .i64 (d : Int)]) :
    Calls Try.prog 36 #[ptr t] w fun e w' => e = .returned (.int .i64 (d : Int)) ∧ w = w' := by
  have c0 := h.cell 1
  simp at c0
  go_enter Try.func36, Try.ntmps36
  go_wp2
  go_ret
  exact ⟨rfl, rfl⟩
section
variable {D : DP} {r : Nat} {s : DSt} {W w1 : World} {v v' : Value} {t : Int}
/-- one more was told. -/
theorem EI.app (hG : D.Good) (hb : BI D.P r s.b W) (h : EI D (r + 1) s W) (hz : s.z = false) (ht : Ix t) (hc : W.cell? ⟨D.eb, 0, none⟩ = some v) (hr : IRow w1 D.B v' (s.en ++ [t])) (tt : Turns v.ownBlock.toList W w1) (hg : ∀ b, v'.ownBlock = some b → v.ownBlock = some b ∨ W.heap.size ≤ b) :
    BI D.P r s.b (w1.setCell ⟨D.eb, 0, none⟩ v') ∧ EI D r (s.told t) (w1.setCell ⟨D.eb, 0, none⟩ v') ∧ Fr D.L D.ws W (w1.setCell ⟨D.eb, 0, none⟩ v') := by
  obtain ⟨v0, hl, hv, hn⟩ := h.ev
  obtain rfl : v0 = v := by
    have h1 : W.cell? ⟨D.eb, 0, none⟩ = some v0 := hl.cell 0
    rw [h1] at hc
    injection hc
  obtain ⟨tv, d, htd, hd⟩ := h.td
  have hgv : ∀ g, v0.ownBlock = some g → D.B ≤ g ∧ ∃ cur, Lies W g 3 cur := fun g e => own_block hv e
  have hebv : D.eb ∉ v0.ownBlock.toList := fun hm => by
    obtain ⟨_, cur, h2⟩ := hgv D.eb (by simpa using hm)
    exact hl.unlike h2 (by decide) rfl
  have k : Turns (D.eb :: v0.ownBlock.toList) W (w1.setCell ⟨D.eb, 0, none⟩ v') := (tt.more (fun b hb => .inl (List.mem_cons_of_mem _ hb))).setCell (.inl (by simp)) _
  have hK : ∀ b, b ∈ D.eb :: v0.ownBlock.toList → b ∉ D.P.L ∧ ¬ Rw D.P.ws W b := fun b hm => by
    rcases List.mem_cons.1 hm with rfl | hm
    · exact hb.apart_ty hl (by decide) (by decide) (by decide) (by decide)
    · have e : v0.ownBlock = some b := by simpa using hm
      obtain ⟨_, cur, h2⟩ := hgv b e
      exact ⟨hb.apart_int h2, hn b e⟩
  have hback : ∀ b, Rw D.P.ws (w1.setCell ⟨D.eb, 0, none⟩ v') b → Rw D.P.ws W b := fun b q => BI.rows_turns hG.P hb k (fun c hc => (hK c hc).1) q
  have l1 : Lies w1 D.eb 31 #[v0] := hl.turn tt hebv
  have l2 : Lies (w1.setCell ⟨D.eb, 0, none⟩ v') D.eb 31 #[v'] := by
    have := l1.set 0 v'
    simpa using this
  have htold : s.told t = ⟨s.b, s.en ++ [t], s.z, s.fv, s.fc⟩ := by unfold DSt.told; rw [if_pos hz]
  have hne : ∀ g, v'.ownBlock = some g → g ≠ D.eb := fun g e q => by
    subst q
    rcases hg _ e with h1 | h1
    · exact hebv (by simpa using h1)
    · have := hl.lt; omega
  rw [htold]
  refine ⟨hb.turns k hK, ⟨⟨v', l2, ?_, fun g e q => ?_⟩, ⟨tv, d, htd.turn k ?_, hd⟩, fun e => (by have e : s.z = true := e; rw [hz] at e; cases e), fun b q => h.low b (hback b q), fun i hi => ?_, ?_, Nat.le_trans h.be k.size⟩, ⟨k.os, k.tape, k.output, k.size, fun b hlt hn' hr' => k.block b hlt fun hm => ?_, fun b hlt q => ?_⟩⟩
  · exact own_keep hr.own fun g e => Below.heap_setCell w1 ⟨D.eb, 0, none⟩ v' g (hne g e)
  · have q0 := hback g q
    rcases hg g e with h1 | h1
    · exact hn g h1 q0
    · obtain ⟨_, cur, h2⟩ := hb.rw q0
      have := h2.lt
      omega
  · intro hm
    rcases List.mem_cons.1 hm with e | hm
    · rw [e] at htd
      exact hl.unlike htd (by decide) rfl
    · obtain ⟨_, cur, h2⟩ := hgv D.td (by simpa using hm)
      exact htd.unlike h2 (by decide) rfl
  · have hi : i ∈ s.en ++ [t] := hi
    rcases List.mem_append.1 hi with h1 | h1
    · exact h.he i h1
    · rw [List.mem_singleton] at h1; subst h1; exact ht
  · have := h.size
    show (s.en ++ [t]).length + r ≤ 5000
    rw [List.length_append]
    simp
    omega
  · rcases List.mem_cons.1 hm with e | hm
    · exact hn' (DP.L_mem.2 (.inr e))
    · refine hr' ⟨⟨D.eb, 0, none⟩, DP.ws_mem.2 (.inr rfl), ?_⟩
      have e : v0.ownBlock = some b := by simpa using hm
      rcases hv.2 with ⟨h0, _⟩ | ⟨g', cap', cur, h0, _⟩
      · rw [h0] at e; cases e
      · rw [h0] at e
        obtain rfl : g' = b := by simpa [Value.ownBlock] using e
        exact ⟨_, _, _, by rw [hc, h0]⟩
  · obtain ⟨a, ha, o, n, c, e⟩ := q
    rcases DP.ws_mem.1 ha with h1 | rfl
    · obtain ⟨a', ha', o', n', c', e'⟩ := hback b ⟨a, h1, o, n, c, e⟩
      exact ⟨a', DP.ws_mem.2 (.inl ha'), o', n', c', e'⟩
    · rw [show (w1.setCell ⟨D.eb, 0, none⟩ v').cell? ⟨D.eb, 0, none⟩ = some v' from l2.cell 0] at e
      injection e with e
      have e2 : v'.ownBlock = some b := by rw [e]; rfl
      rcases hg b e2 with h1 | h1
      · refine ⟨⟨D.eb, 0, none⟩, DP.ws_mem.2 (.inr rfl), ?_⟩
        rcases hv.2 with ⟨h0, _⟩ | ⟨g', cap', cur, h0, _⟩
        · rw [h0] at h1; cases h1
        · rw [h0] at h1
          obtain rfl : g' = b := by simpa [Value.ownBlock] using h1
          exact ⟨_, _, _, by rw [hc, h0]⟩
      · omega
end

/-- the variable 'drain': older than what others write. -/
structure DVx (D : DP) (w : World) : Prop where
  l : Lies w D.dv 35 #[ptr D.td]
  lo : D.dv < D.B
  out : D.dv ∉ D.L
  row : ¬ Rw D.ws w D.dv
  outX : D.dv ≠ D.td
theorem DVx.mv {D : DP} {w w' : World} (h : DVx D w) (k : Mv D.B (D.L ++ [D.td]) D.ws w w') : DVx D w' :=
  ⟨by
    rcases k.block _ h.l.lt (fun hm => (List.mem_append.1 hm).elim h.out fun q => h.outX (by simpa using q)) h.row with e | e
    · exact e.trans h.l
    · have := e.1
      have := h.lo
      omega, h.lo, h.out, k.row h.l.lt h.row, h.outX⟩
theorem DVx.cell {D : DP} {w : World} (h : DVx D w) : w.cell? ⟨D.dv, 0, none⟩ = some (ptr D.td) := h.l.cell 0

end Go.Proofs.Ythkklcmmbpffiaa

/- The inbox's putters that tell: 'done'; the law's Dead. -/
namespace Go.Proofs.Ythkklcmmbpffiaa
open Go.RowKit Go.ChangeShapes Go.WideShapes
set_option maxRecDepth 100000

theorem dm_dead (D : DP) (hG : D.Good) {w : World} {ba bn : Nat} (l : List Int) (n : Nat) (xa : (DM D).Bx w ba 24 #[ptr D.P.p]) (xn : (DM D).Bx w bn 3 #[.int .i64 (D.P.n : Int)]) :
    (DM D).DeadOk w 47 #[ptr ba, ptr bn] (fun o => hIx o < D.P.n) (fun o => ⟨.pD o, l, n⟩) (fun o => ⟨.pS o, l, n⟩) (fun o => ⟨.pN o, l, n⟩) := by
  refine ⟨ent_dead9, fun m o w' f cap hm hw _ ho hz hE hT => ?_⟩
  have hM := dm_ok D hG
  have hi := hIx_ix hz
  have k0 : Turns [] w' (w'.alloc (.cells #[.func (.func f) #[] cap] 103)) := (Turns.refl _ _).alloc _
  have l0 : Lies (w'.alloc (.cells #[.func (.func f) #[] cap] 103)) w'.heap.size 103 #[.func (.func f) #[] cap] := Lies.new _ _ _
  have h2 := hw.mv hM k0
  have d0 := ((xa.mv hm).mv h2).cell
  have e0 := ((xn.mv hm).mv h2).cell
  have hl := load_g (q := ⟨.pD o, l, n⟩) (i := hIx o + (2 + D.P.n)) (f := 49) (cap := #[ptr w'.heap.size]) (dmAr D hG) hM (V := fun _ _ => True) (fun _ _ _ => trivial) (T := fun x s => (if x = 1 then ⟨.pN o, l, n⟩ else ⟨.pS o, l, n⟩, s)) ent_dead91 (hw.made hM k0) rfl (dead91_g hE (hw.box hM k0 (Nat.le_refl _) l0 (by decide)) (hT.mv h2)) (fun s => rfl)
  have hf := hG.P.few
  have e1 : hIx o + (2 + (D.P.n : Int)) = 2 + D.P.n + hIx o := by omega
  rw [e1] at hl
  have hmf := hmf_run
  clear hT hw h2 l0 hz xa xn hm e1
  show (DM D).Makes m (⟨.pD o, l, n⟩ : BPr) 47 #[.int .i64 (hIx o), .func (.func f) #[] cap, ptr ba, ptr bn] w'
  generalize (⟨.pD o, l, n⟩ : BPr) = q at *
  generalize hIx o = y at *
  unfold Ix at hi
  have hw1 : IntKind.i64.wrap (2 + (D.P.n : Int)) = 2 + D.P.n := by rw [IntKind.wrap_i64]; omega
  have hw2 : IntKind.i64.wrap (2 + (D.P.n : Int) + y) = 2 + D.P.n + y := by rw [IntKind.wrap_i64]; omega
  unfold Gm.Makes Ent at *
  go_enter Try.func47, Try.ntmps47
  go_wp2_with fail
  refine hl.mono ?_
  rintro e w2 ⟨v, rfl, hc, t2⟩
  go_wp2
  go_ret
  exact ⟨v, rfl, hc, k0.trans t2⟩


section
variable {D : DP} {r : Nat} {s : DSt} {W : World} {t : Int}
set_option maxHeartbeats 1000000 in
theorem done_g (hG : D.Good) (ht : Ix t) (hj : (DM D).J r s W) (xd : DVx D W) :
    Calls Try.prog 35 #[.int .i64 t, ptr D.dv, ptr D.eb] W fun e w' => (∃ u, e = .returned u) ∧ (DM D).I r (s.told t) w' ∧ Fr D.L D.ws W w' := by
  have hM := dm_ok D hG
  have hI0 := hM.ji _ _ _ hj
  have hw := hM.okw _ _ _ hI0
  obtain ⟨tv, d, htd, hd⟩ := hj.2.td
  obtain ⟨v, hl, hv, hn⟩ := hj.2.ev
  have cd := xd.cell
  have hst := steps_lies htd
  by_cases hz : s.z = false
  · obtain rfl : d = 0 := hd.2 hz
    have k1 : Turns [] W (W.alloc (.cells #[.int .i64 t] 3)) := (Turns.refl _ _).alloc _
    have hj1 := hM.jmade k1 hj
    have hb1 := (hM.ji _ _ _ hj1).1
    have f1 : Fr D.L D.ws W (W.alloc (.cells #[.int .i64 t] 3)) := hw.fr hM k1
    have hl1 : Lies (W.alloc (.cells #[.int .i64 t] 3)) D.eb 31 #[v] := hl.turn k1 (by simp)
    have hv1 : IRow (W.alloc (.cells #[.int .i64 t] 3)) D.B v s.en := ⟨own_keep hv fun g hg => by
      obtain ⟨_, cur, h2⟩ := own_block hv hg
      exact k1.block g h2.lt (by simp), fun x hx => by have := hj.2.he x hx; unfold Ix at this; exact WalkArith.wf_i64 (by omega)⟩
    have htw : (Lit.int .i64 t).wf = true := by unfold Ix at ht; exact WalkArith.wf_i64 (by omega)
    have hu1 : IRow (W.alloc (.cells #[.int .i64 t] 3)) W.heap.size (.slice (some ⟨W.heap.size, 0, none⟩) 1 1) [t] := IRow.lit W (B := W.heap.size) [t] #[.int .i64 t] rfl (Nat.le_refl _) (Ints.one htw) (by simp)
    have hB1 : D.B ≤ (W.alloc (.cells #[.int .i64 t] 3)).heap.size := Nat.le_trans hj.2.be k1.size
    have hsz := hj.2.size
    have F := Lib.hid (fun v' w1 hr tt hg => EI.app (v := v) (v' := v') (w1 := w1) hG hb1 hj1.2 hz ht (hl1.cell 0) hr tt hg)
    have HF1 := Lib.hid f1
    have ce : W.cell? ⟨D.eb, 0, none⟩ = some v := hl.cell 0
    have hlen : s.en.length + [t].length ≤ 10000 := by simp; omega
    clear hj hI0 hw hd htd hn hj1 hb1 f1 hsz xd
    go_enter Try.func35, Try.ntmps35
    go_wp2_with fail
    refine hst.mono ?_
    rintro e w' ⟨rfl, rfl⟩
    clear hst
    go_wp2_with (first | (at_builtin; refine wpList_more (v := v) (u := .slice (some ⟨W.heap.size, 0, none⟩) 1 1) rfl (.tmp 7) (.tmp 9) rfl rfl rfl hv1 hu1 hlen hB1 ?_; intro v' w1 hr tt hg; obtain ⟨A', c', hve, _⟩ := hr.row; subst hve; have hl2 := hl1.turn tt (fun hm => by obtain ⟨_, cur, h2⟩ := own_block hv1.own (by simpa using hm); exact hl1.unlike h2 (by decide) rfl); have c2 : w1.cell? ⟨D.eb, 0, none⟩ = some v := hl2.cell 0; have f2 : w1.frozen? ⟨D.eb, 0, none⟩ = false := hl2.frozen 0) | fail)
    go_end0
    obtain ⟨a1, a2, a3⟩ := F.out _ w1 hr tt hg
    rw [show (s.en ++ [t]).length = s.en.length + 1 by simp] at a1 a2 a3
    have eb : (s.told t).b = s.b := by unfold DSt.told; split <;> rfl
    exact ⟨⟨_, rfl⟩, ⟨by rw [eb]; exact a1, a2⟩, HF1.out.trans a3⟩
  · have hd0 : ¬ (d : Int) = 0 := fun e => hz (hd.1 (by omega))
    have e : s.told t = s := by unfold DSt.told; rw [if_neg hz]
    rw [e]
    have HI := Lib.hid hI0
    clear hj hI0 hw hd htd hn hl hv xd e hz
    go_enter Try.func35, Try.ntmps35
    go_wp2_with fail
    refine hst.mono ?_
    rintro e w' ⟨rfl, rfl⟩
    clear hst
    go_wp2
    go_end0
    exact ⟨⟨_, rfl⟩, HI.out, Fr.refl _ _ _⟩
end

end Go.Proofs.Ythkklcmmbpffiaa

/- The inbox's putters that tell: Puts, one behind the other. -/
namespace Go.Proofs.Ythkklcmmbpffiaa
open Go.RowKit Go.ChangeShapes Go.WideShapes
set_option maxRecDepth 100000

/-- numbers that codes read, and nobody writes. -/
structure ILD (D : DP) (w : World) (A : Option Addr) (xs : List Int) : Prop where
  most : xs.length ≤ 100000
  at_ : 0 < xs.length → ∃ a, A = some a ∧ a.block < w.heap.size ∧ a.block ∉ D.L ++ [D.td] ∧ ¬ Rw D.ws w a.block ∧ ¬ IsTask D.B w a.block ∧ ∀ i, i < xs.length → w.cell? (a.add i) = some (.int .i64 (xs.getD i 0))
section
variable {D : DP} {w w' : World} {A : Option Addr} {xs : List Int}
theorem ILD.mv (h : ILD D w A xs) (k : Mv D.B (D.L ++ [D.td]) D.ws w w') : ILD D w' A xs :=
  ⟨h.most, fun hn => by
    obtain ⟨a, e, h1, h2, h3, h4, h5⟩ := h.at_ hn
    have hb : w'.heap[a.block]? = w.heap[a.block]? := by
      rcases k.block _ h1 h2 h3 with e | e
      · exact e
      · exact absurd e h4
    refine ⟨a, e, Nat.lt_of_lt_of_le h1 k.size, h2, k.row h1 h3, fun q => h4 (q.of_same hb.symm), fun i hi => ?_⟩
    exact (World.cell?_of_block (w := w) (by rw [add_block]; exact hb)).trans (h5 i hi)⟩
theorem ILD.tail {x : Int} {cp : Nat} (h : ILD D w A (x :: xs)) (hc : xs.length + 1 ≤ cp) : ILD D w (tailO A cp) xs :=
  ⟨by have := h.most; simp at this; omega, fun hn => by
    obtain ⟨a, rfl, h1, h2, h3, h4, h5⟩ := h.at_ (by simp)
    refine ⟨a.add 1, by unfold tailO; rw [if_neg (by omega)]; rfl, by rw [add_block]; exact h1, by rw [add_block]; exact h2, by rw [add_block]; exact h3, by rw [add_block]; exact h4, fun i hi => ?_⟩
    have := h5 (i + 1) (by simp; omega)
    rw [Go.Deep.add_add, show 1 + i = i + 1 by omega]
    simpa using this⟩
theorem ILD.head {x : Int} (h : ILD D w A (x :: xs)) : ∃ a, A = some a ∧ w.cell? a = some (.int .i64 x) := by
  obtain ⟨a, e, _, _, _, _, h5⟩ := h.at_ (by simp)
  have := h5 0 (by simp)
  refine ⟨a, e, ?_⟩
  have e0 : a.add 0 = a := by simp [Addr.add]
  rw [e0] at this
  simpa using this
end


theorem eqIn_fn (d : Nat) (f : FuncId) (c : Array Value) (W : World) : (Op.equalIn (d + 1) 81 (.func (.func f) #[] c) .nilFunc).run Try.prog W = .ok false W := by
  simp [Op.equalIn, run_underlying Try.underlying81]
theorem neq_fn (f : FuncId) (c : Array Value) (W : World) : (binOp .neq 81 (.func (.func f) #[] c) .nilFunc).run Try.prog W = .ok (.bool true) W := by
  have h : (Op.equal 81 (.func (.func f) #[] c) .nilFunc).run Try.prog W = .ok false W := eqIn_fn 9999 f c W
  simp only [binOp]
  simp [h]
abbrev dnV (D : DP) : Value := .func (.func 35) #[] #[ptr D.dv, ptr D.eb]
section
variable {D : DP} {m b b1 b2 : Nat} {w : World} {A : Option Addr} {cp : Nat} {t : Int} {l : List Int} {dcap : Array Value}
set_option maxHeartbeats 1000000 in
theorem puts1_d (hG : D.Good) (ht : Ix t) (hl : ILD D w A (t :: l)) (hcp : l.length + 1 ≤ cp) (xd : DVx D w) (x0 : (DM D).Bx w b 81 #[dnV D]) (x1 : (DM D).Bx w b1 31 #[.slice A (l.length + 1) cp]) (x2 : (DM D).Bx w b2 62 (bxC D.P.p 0 1 46 47 #[] dcap))
    (ih : ∀ n, n < m → ∀ w' r s, Mv D.B (D.L ++ [D.td]) D.ws w w' → (DM D).I r s w' → ILD D w' (tailO A cp) l → (DM D).Makes n (startP l) 30 #[bxP D.P dcap, .slice (tailO A cp) l.length (cp - 1), dnV D] w') :
    (DM D).Cont m 51 #[ptr b, ptr b1, ptr b2] w (fun (_ : Unit) _ => True) (fun _ => #[]) (fun _ s => (startP l, s.told t)) := by
  intro n hn x w' s r hm hj _
  have hM := dm_ok D hG
  have hm : Mv D.B (D.L ++ [D.td]) D.ws w w' := hm
  have l0 := (x2.mv hm).l
  obtain ⟨c0, c1, c2, c3, c4, c5, c6⟩ : w'.cell? ⟨b2, 0, none⟩ = some (ptr D.P.p) ∧ w'.cell? ⟨b2, 1, none⟩ = some (.int .i64 0) ∧ w'.cell? ⟨b2, 2, none⟩ = some (.func (.func 46) #[] #[]) ∧ w'.cell? ⟨b2, 3, none⟩ = some (.func (.func 47) #[] dcap) ∧ w'.cell? ⟨b2, 4, none⟩ = some (ptr D.P.p) ∧ w'.cell? ⟨b2, 5, none⟩ = some (.int .i64 1) ∧ w'.cell? ⟨b2, 6, none⟩ = some (.func (.func 46) #[] #[]) := ⟨l0.cell 0, l0.cell 1, l0.cell 2, l0.cell 3, l0.cell 4, l0.cell 5, l0.cell 6⟩
  have d0 := (x0.mv hm).cell
  have e0 := (x1.mv hm).cell
  have hw := hM.okj hj
  have kd : Turns [] w' w'.drew := (Turns.refl [] w').drew
  have hdn := done_g hG ht (hM.jmade kd hj) ((xd.mv hm).mv (hw.mv hM kd))
  have fd : Fr D.L D.ws w' w'.drew := hw.fr hM kd
  have hL1 := hl.mv hm
  obtain ⟨a, rfl, hca⟩ := hL1.head
  have ea0 : a.add 0 = a := by simp [Addr.add]
  have hca0 : w'.cell? (a.add 0) = some (.int .i64 t) := by rw [ea0]; exact hca
  have ht2 : ∀ w2, Fr D.L D.ws w' w2 → (DM D).I r (s.told t) w2 → ∀ W, Turns [] w2 W → Calls Try.prog 30 #[bxP D.P dcap, .slice (tailO (some a) cp) l.length (cp - 1), dnV D] W fun e w3 => ∃ v, e = .returned v ∧ ((DM D).I r (s.told t) w3 ∧ (DM D).Code n (startP l) v w3) ∧ Turns [] w2 w3 := fun w2 f2 hI2 W hW => by
    have m2 : Mv D.B (D.L ++ [D.td]) D.ws w' W := (f2.mv (X := [D.td])).trans ((hM.okw _ _ _ hI2).mv hM hW)
    have hIW := hM.made hW hI2
    have h9 := ih n hn W r (s.told t) (hm.trans m2) hIW (((hl.mv hm).mv m2).tail hcp)
    unfold Gm.Makes at h9
    refine h9.mono ?_
    rintro e w3 ⟨v, he, hc, t3⟩
    exact ⟨v, he, ⟨hM.made t3 hIW, hc⟩, hW.trans t3⟩
  have hfr : ∀ w2 w3, (DM D).I r (s.told t) w2 → Turns [] w2 w3 → Fr D.L D.ws w2 w3 := fun w2 w3 h k => (hM.okw _ _ _ h).fr hM k
  have o0 := (x0.mv hm).out
  have o1 := (x1.mv hm).out
  have o2 := (x2.mv hm).out
  have q0 := (x0.mv hm).row
  have q1 := (x1.mv hm).row
  have q2 := (x2.mv hm).row
  have g0 := (x0.mv hm).lt
  have g1 := (x1.mv hm).lt
  have g2 := (x2.mv hm).lt
  have hsl := slice_tail1 (t := 31) (e := 3) Try.underlying31 (by kernel_rfl) (some a) (l.length + 1) cp (by omega)
  have en := fun c W => neq_fn 35 c W
  clear hj hm ih x0 x1 x2 l0 hl hw xd kd hL1
  show (DM D).Then _ #[ptr b, ptr b1, ptr b2] w' (fun v w'' => (DM D).I r (s.told t) w'' ∧ (DM D).Code n (startP l) v w'')
  unfold Gm.Then at *
  have HT := Lib.hid ht2
  have HFR := Lib.hid hfr
  clear ht2 hfr
  go_enter Try.func51, Try.ntmps51
  go_upto_region 2 with (fail)
  go_still_tail 4, (by kernel_rfl)
  change wpList _ _ _ _ _ w'.drew
  go_wp2_with fail
  refine hdn.mono ?_
  rintro e w2 ⟨⟨u, rfl⟩, hI2, f2⟩
  have f2 := fd.trans f2
  have ht := HT.out w2 f2 hI2 _ ((Turns.refl [] w2).drew)
  have c0 := (f2.cell (p := ⟨b2, 0, none⟩) g2 o2 q2).trans c0
  have c1 := (f2.cell (p := ⟨b2, 1, none⟩) g2 o2 q2).trans c1
  have c2 := (f2.cell (p := ⟨b2, 2, none⟩) g2 o2 q2).trans c2
  have c3 := (f2.cell (p := ⟨b2, 3, none⟩) g2 o2 q2).trans c3
  have c4 := (f2.cell (p := ⟨b2, 4, none⟩) g2 o2 q2).trans c4
  have c5 := (f2.cell (p := ⟨b2, 5, none⟩) g2 o2 q2).trans c5
  have c6 := (f2.cell (p := ⟨b2, 6, none⟩) g2 o2 q2).trans c6
  have e0 := (f2.cell (p := ⟨b1, 0, none⟩) g1 o1 q1).trans e0
  have d0 := (f2.cell (p := ⟨b, 0, none⟩) g0 o0 q0).trans d0
  have h2 := Nat.lt_of_lt_of_le g2 f2.size
  have h1 := Nat.lt_of_lt_of_le g1 f2.size
  have h0 := Nat.lt_of_lt_of_le g0 f2.size
  have HF2 := Lib.hid (And.intro f2 hI2)
  clear hdn hca hca0 f2 hI2 fd o0 o1 o2 q0 q1 q2 g0 g1 g2
  go_upto_region 3 with (fail)
  go_region_held3 (fun W' => W'.cell? ⟨b2, 0, none⟩ = some (ptr D.P.p) ∧ W'.cell? ⟨b2, 1, none⟩ = some (.int .i64 0) ∧ W'.cell? ⟨b2, 2, none⟩ = some (.func (.func 46) #[] #[]) ∧ W'.cell? ⟨b2, 3, none⟩ = some (.func (.func 47) #[] dcap) ∧ W'.cell? ⟨b2, 4, none⟩ = some (ptr D.P.p) ∧ W'.cell? ⟨b2, 5, none⟩ = some (.int .i64 1) ∧ W'.cell? ⟨b2, 6, none⟩ = some (.func (.func 46) #[] #[]) ∧ W'.cell? ⟨b1, 0, none⟩ = some (.slice (some a) (l.length + 1) cp) ∧ W'.cell? ⟨b, 0, none⟩ = some (dnV D))
    (first | exact ⟨c0, c1, c2, c3, c4, c5, c6, e0, d0⟩ | exact kB)
    (first
      | (refine ht.mono ?_
         rintro e w3 ⟨v, rfl, hq, t3⟩
         have kB := And.intro ((t3.cell (p := ⟨b2, 0, none⟩) h2 (by simp)).trans c0) (And.intro ((t3.cell (p := ⟨b2, 1, none⟩) h2 (by simp)).trans c1) (And.intro ((t3.cell (p := ⟨b2, 2, none⟩) h2 (by simp)).trans c2) (And.intro ((t3.cell (p := ⟨b2, 3, none⟩) h2 (by simp)).trans c3) (And.intro ((t3.cell (p := ⟨b2, 4, none⟩) h2 (by simp)).trans c4) (And.intro ((t3.cell (p := ⟨b2, 5, none⟩) h2 (by simp)).trans c5) (And.intro ((t3.cell (p := ⟨b2, 6, none⟩) h2 (by simp)).trans c6) (And.intro ((t3.cell (p := ⟨b1, 0, none⟩) h1 (by simp)).trans e0) ((t3.cell (p := ⟨b, 0, none⟩) h0 (by simp)).trans d0))))))))))
  all_goals
    go_wp2
    go_ret
    exact ⟨v, rfl, hq, HF2.out.1.trans (HFR.out _ _ HF2.out.2 t3)⟩
end

end Go.Proofs.Ythkklcmmbpffiaa

/- The inbox's putters that tell: code for all of them. -/
namespace Go.Proofs.Ythkklcmmbpffiaa
open Go.RowKit
set_option maxRecDepth 100000

section
variable {D : DP}
set_option maxHeartbeats 2000000 in
theorem puts_d (hG : D.Good) {ba bn : Nat} : ∀ (m : Nat) (l : List Int), (∀ t, t ∈ l → 0 ≤ t ∧ t < D.P.n) → ∀ (A : Option Addr) (cp : Nat) (w : World) (r : Nat) (s : DSt), l.length ≤ cp → (DM D).I r s w → ILD D w A l → DVx D w → (DM D).Bx w ba 24 #[ptr D.P.p] → (DM D).Bx w bn 3 #[.int .i64 (D.P.n : Int)] →
    (DM D).Makes m (startP l) 30 #[bxP D.P #[ptr ba, ptr bn], .slice A l.length cp, .func (.func 35) #[] #[ptr D.dv, ptr D.eb]] w := by
  intro m
  induction m using Nat.strongRecOn with
  | _ m ih =>
    intro l hl A cp w r s hcp hi hI xd xa xn
    have hM := dm_ok D hG
    have hw := hM.okw _ _ _ hi
    have hmf := hmf_run
    have y2 := fun (a : Addr) (f : FuncId) (c : Array Value) (w : World) => run_store Try.prog w a (.func (.func f) #[] c) .plain rfl
    obtain ⟨W2, hW2⟩ : ∃ W2, (((w.alloc (.cells #[ptr D.P.p, .int .i64 0, .func (.func 46) #[] #[], .func (.func 47) #[] #[ptr ba, ptr bn], ptr D.P.p, .int .i64 1, .func (.func 46) #[] #[]] 62)).alloc (.cells #[.slice A l.length cp] 31)).alloc (.cells #[.func (.func 35) #[] #[ptr D.dv, ptr D.eb]] 81)) = W2 := ⟨_, rfl⟩
    have k2 : Turns [] w W2 := by rw [← hW2]; exact (((Turns.refl _ _).alloc _).alloc _).alloc _
    have l0 : Lies W2 w.heap.size 62 (bxC D.P.p 0 1 46 47 #[] #[ptr ba, ptr bn]) := by rw [← hW2]; exact ((Lies.new _ _ _).alloc _).alloc _
    have l1 : Lies W2 (w.heap.size + 1) 31 #[.slice A l.length cp] := by rw [← hW2]; exact (Lies.new_of _ _ (by simp)).alloc _
    have l2 : Lies W2 (w.heap.size + 1 + 1) 81 #[.func (.func 35) #[] #[ptr D.dv, ptr D.eb]] := by rw [← hW2]; exact Lies.new_of _ _ (by simp)
    have d1 : W2.cell? ⟨w.heap.size + 1, 0, none⟩ = some (.slice A l.length cp) := l1.cell 0
    cases l with
    | nil =>
      have hc0 : (DM D).Code m (startP []) .nilFunc W2 := by cases m <;> exact .inl ⟨rfl, rfl⟩
      clear ih hI xd xa xn l0 l1 l2 hi hw
      have hW2 : (((w.alloc (.cells #[ptr D.P.p, .int .i64 0, .func (.func 46) #[] #[], .func (.func 47) #[] #[ptr ba, ptr bn], ptr D.P.p, .int .i64 1, .func (.func 46) #[] #[]] 62)).alloc (.cells #[.slice A 0 cp] 31)).alloc (.cells #[.func (.func 35) #[] #[ptr D.dv, ptr D.eb]] 81)) = W2 := hW2
      subst hW2
      unfold Gm.Makes
      go_enter Try.func30, Try.ntmps30
      go_wp2_with fail
      go_ret
      exact ⟨_, rfl, hc0, k2⟩
    | cons t l =>
      have hcp : l.length + 1 ≤ cp := hcp
      have ht := hl t (by simp)
      have hR : ∀ W, Turns [] W2 W → (DM D).Makes m (startP (t :: l)) 50 #[bxP D.P #[ptr ba, ptr bn], .int .i64 t, .func (.func 51) #[] #[ptr (w.heap.size + 1 + 1), ptr (w.heap.size + 1), ptr w.heap.size]] W := fun W hW => by
        have k4 := k2.trans hW
        have hm4 := hw.mv hM k4
        have hi4 := hM.made k4 hi
        have hfew := hG.P.few
        have hix : Ix t := by unfold Ix; omega
        exact put_g (dmAr D hG) hM (dm_ch D hG (.inl rfl)) (dm_ch D hG (.inr rfl)) (dm_put D hG t l 0) ht (fun o ho hz => ⟨(hIx_ix hz).1, ho⟩) m _ _ W ent_puts1 (hw.made hM k4) (dm_lk D W) (dm_dead D hG (t :: l) 0 (xa.mv hm4) (xn.mv hm4)) ((dm_ch D hG (.inl rfl)).begin ht hi4)
          (puts1_d hG hix (hI.mv hm4) hcp (xd.mv hm4) (hw.box hM k4 (by omega) (l2.turn hW (by simp)) (by decide)) (hw.box hM k4 (by omega) (l1.turn hW (by simp)) (by decide)) (hw.box hM k4 (Nat.le_refl _) (l0.turn hW (by simp)) (by decide))
            (fun n hn w' r' s' h1 h2 h3 => ih n hn l (fun y hy => hl y (by simp [hy])) _ _ w' r' s' (by omega) h2 h3 ((xd.mv hm4).mv h1) ((xa.mv hm4).mv h1) ((xn.mv hm4).mv h1)))
      obtain ⟨a, rfl, hca⟩ := (hI.mv (hw.mv hM k2)).head
      obtain ⟨c0, c1, c2, c3, c4, c5, c6⟩ : W2.cell? ⟨w.heap.size, 0, none⟩ = some (ptr D.P.p) ∧ W2.cell? ⟨w.heap.size, 1, none⟩ = some (.int .i64 0) ∧ W2.cell? ⟨w.heap.size, 2, none⟩ = some (.func (.func 46) #[] #[]) ∧ W2.cell? ⟨w.heap.size, 3, none⟩ = some (.func (.func 47) #[] #[ptr ba, ptr bn]) ∧ W2.cell? ⟨w.heap.size, 4, none⟩ = some (ptr D.P.p) ∧ W2.cell? ⟨w.heap.size, 5, none⟩ = some (.int .i64 1) ∧ W2.cell? ⟨w.heap.size, 6, none⟩ = some (.func (.func 46) #[] #[]) := ⟨l0.cell 0, l0.cell 1, l0.cell 2, l0.cell 3, l0.cell 4, l0.cell 5, l0.cell 6⟩
      have g0 := l0.lt
      have g1 := l1.lt
      have hll : ¬ ((l.length : Int) + 1 = 0) := by omega
      have d1 : W2.cell? ⟨w.heap.size + 1, 0, none⟩ = some (.slice (some a) (l.length + 1) cp) := d1
      have hb : a.block < W2.heap.size := by
        obtain ⟨a', e, hb, _⟩ := (hI.mv (hw.mv hM k2)).at_ (by simp)
        injection e with e
        rw [e]
        exact hb
      have ea0 : a.add 0 = a := by simp [Addr.add]
      have hca0 : W2.cell? (a.add 0) = some (.int .i64 t) := by rw [ea0]; exact hca
      clear ih hI xd xa xn l0 l1 l2 hi hw hl ht
      show (DM D).Makes m (startP (t :: l)) 30 #[bxP D.P #[ptr ba, ptr bn], .slice (some a) (l.length + 1) cp, .func (.func 35) #[] #[ptr D.dv, ptr D.eb]] w
      generalize startP (t :: l) = q at *
      unfold Gm.Makes at *
      go_enter Try.func30, Try.ntmps30
      go_upto_region 3 with (fail)
      have hW2 : (((w.alloc (.cells #[ptr D.P.p, .int .i64 0, .func (.func 46) #[] #[], .func (.func 47) #[] #[ptr ba, ptr bn], ptr D.P.p, .int .i64 1, .func (.func 46) #[] #[]] 62)).alloc (.cells #[.slice (some a) (l.length + 1) cp] 31)).alloc (.cells #[.func (.func 35) #[] #[ptr D.dv, ptr D.eb]] 81)) = W2 := hW2
      try rw [hW2]
      clear hW2
      go_region_held3 (fun W' => W'.cell? ⟨w.heap.size, 0, none⟩ = some (ptr D.P.p) ∧ W'.cell? ⟨w.heap.size, 1, none⟩ = some (.int .i64 0) ∧ W'.cell? ⟨w.heap.size, 2, none⟩ = some (.func (.func 46) #[] #[]) ∧ W'.cell? ⟨w.heap.size, 3, none⟩ = some (.func (.func 47) #[] #[ptr ba, ptr bn]) ∧ W'.cell? ⟨w.heap.size, 4, none⟩ = some (ptr D.P.p) ∧ W'.cell? ⟨w.heap.size, 5, none⟩ = some (.int .i64 1) ∧ W'.cell? ⟨w.heap.size, 6, none⟩ = some (.func (.func 46) #[] #[]) ∧ W'.cell? ⟨w.heap.size + 1, 0, none⟩ = some (.slice (some a) (l.length + 1) cp) ∧ W'.cell? (a.add 0) = some (.int .i64 t) ∧ W'.cell? a = some (.int .i64 t))
        (first | exact ⟨c0, c1, c2, c3, c4, c5, c6, d1, hca0, hca⟩ | exact kB)
        (first
          | (refine (hR _ ((Turns.refl [] W2).drew)).mono ?_
             rintro e w4 ⟨v, rfl, hc4, t4⟩
             have t5 := ((Turns.refl [] W2).drew).trans t4
             have kB := And.intro ((t5.cell (p := ⟨w.heap.size, 0, none⟩) g0 (by simp)).trans c0) (And.intro ((t5.cell (p := ⟨w.heap.size, 1, none⟩) g0 (by simp)).trans c1) (And.intro ((t5.cell (p := ⟨w.heap.size, 2, none⟩) g0 (by simp)).trans c2) (And.intro ((t5.cell (p := ⟨w.heap.size, 3, none⟩) g0 (by simp)).trans c3) (And.intro ((t5.cell (p := ⟨w.heap.size, 4, none⟩) g0 (by simp)).trans c4) (And.intro ((t5.cell (p := ⟨w.heap.size, 5, none⟩) g0 (by simp)).trans c5) (And.intro ((t5.cell (p := ⟨w.heap.size, 6, none⟩) g0 (by simp)).trans c6) (And.intro ((t5.cell (p := ⟨w.heap.size + 1, 0, none⟩) g1 (by simp)).trans d1) (And.intro ((t5.cell (p := a.add 0) (by rw [add_block]; exact hb) (by simp)).trans hca0) ((t5.cell (p := a) hb (by simp)).trans hca)))))))))))
      all_goals
        go_wp2
        go_ret
        exact ⟨v, rfl, hc4, k2.trans t5⟩
end

end Go.Proofs.Ythkklcmmbpffiaa

/- The inbox: a drain's task beside putters that tell: what their steps are to one another. -/
namespace Go.Proofs.Ythkklcmmbpffiaa
open Go.RowKit Go.ChangeShapes Go.WideShapes
set_option maxRecDepth 100000

/-- the drain's task; its code was made at a world w0 ahead of what 'ended' has. -/
structure Lz0 (D : DP) (r d : Nat) (q : BPr) (z : Bool) (W : World) : Prop where
  at_ : ∃ v w0, Lies W D.td 89 #[v, .int .i64 (d : Int)] ∧ (BM (D.P.wide [D.eb])).Code r q v w0 ∧ D.eb < w0.heap.size ∧ Mv D.P.B (D.P.L ++ [D.eb]) D.P.ws w0 W ∧ (z = false → w0.heap.size ≤ D.B)
section
variable {D : DP} {r r' d t : Nat} {q : BPr} {s s' : DSt} {W W' : World}
/-- a putter's step. -/
theorem Lz0.puts (hG : D.Good) (h : Lz0 D r d q s.z W) (he : EI D r' s W) (he' : EI D r' s' W') (hz : s'.z = s.z) (hfv : s'.fv = s.fv) (hfc : s'.fc = s.fc) (f : Fr (t :: D.L) D.ws W W') (ht : IsTask D.B W t) (hb : BI D.P r' s.b W) : Lz0 D r d q s'.z W' := by
  obtain ⟨v, w0, h1, h2, h3, h4, h5⟩ := h.at_
  obtain ⟨ev, hl, hv, hn⟩ := he.ev
  obtain ⟨ev', hl', hv', hn'⟩ := he'.ev
  have ce : W.cell? ⟨D.eb, 0, none⟩ = some ev := hl.cell 0
  have tdt : D.td ≠ t := fun e => by
    have h6 := ht.1
    have := hG.td
    omega
  have tdo : D.td ∉ t :: D.L := fun hm => by
    rcases List.mem_cons.1 hm with e | hm
    · exact tdt e
    · rcases DP.L_mem.1 hm with h6 | h6
      · exact (hb.apart_ty h1 (by decide) (by decide) (by decide) (by decide)).1 h6
      · rw [h6] at h1
        exact hl.unlike h1 (by decide) rfl
  have tdr : ¬ Rw D.ws W D.td := fun hq => by
    obtain ⟨a, ha, o, n, c, e⟩ := hq
    rcases DP.ws_mem.1 ha with h6 | rfl
    · exact (hb.apart_ty h1 (by decide) (by decide) (by decide) (by decide)).2 ⟨a, h6, o, n, c, e⟩
    · rw [ce] at e
      injection e with e
      obtain ⟨_, cur, h7⟩ := own_lies hv e
      exact h1.unlike h7 (by decide) rfl
  have same : s.z = true → ev' = ev := fun e => by
    have a1 := (he.fz e).1
    have a2 := (he'.fz (by rw [hz]; exact e)).1
    rw [hfv] at a2
    have b1 : W.cell? ⟨D.eb, 0, none⟩ = some s.fv := a1.cell 0
    have b2 : W'.cell? ⟨D.eb, 0, none⟩ = some s.fv := a2.cell 0
    rw [ce] at b1
    rw [show W'.cell? ⟨D.eb, 0, none⟩ = some ev' from hl'.cell 0] at b2
    injection b1 with b1
    injection b2 with b2
    rw [b1, b2]
  have efv : s.z = true → ev = s.fv := fun e => by
    have b1 : W.cell? ⟨D.eb, 0, none⟩ = some s.fv := (he.fz e).1.cell 0
    rw [ce] at b1
    injection b1
  have own : ∀ b, Rw D.ws W b → Rw D.P.ws W b ∨ ev.ownBlock = some b := fun b ⟨a, ha, o, n, c, e⟩ => by
    rcases DP.ws_mem.1 ha with h6 | rfl
    · exact .inl ⟨a, h6, o, n, c, e⟩
    · rw [ce] at e
      injection e with e
      exact .inr (by rw [e]; rfl)
  refine ⟨v, w0, f.lies h1 tdo tdr, h2, h3, ⟨f.os.trans h4.os, f.tape.trans h4.tape, f.output.trans h4.output, Nat.le_trans h4.size f.size, fun b hb0 hnb hnr => ?_, fun b hb0 hq => ?_⟩, fun hzz => ?_⟩
  · have hbW := Nat.lt_of_lt_of_le hb0 h4.size
    rcases h4.block b hb0 hnb hnr with e | e
    · by_cases ebt : b = t
      · subst ebt
        exact .inr ((ht.down hG.lo).of_same e.symm)
      · by_cases hrw : Rw D.ws W b
        · rcases own b hrw with h6 | h6
          · exact absurd (h4.rows b hb0 h6) hnr
          · cases hzz : s.z with
            | false => have h8 := h5 hzz; have h9 := (own_block hv h6).1; omega
            | true =>
              rw [efv hzz] at h6
              have a1 := (he.fz hzz).2 b h6
              have a2 := (he'.fz (by rw [hz]; exact hzz)).2 b (by rw [hfv]; exact h6)
              rw [hfc] at a2
              exact .inl ((a2.trans a1.symm).trans e)
        · refine .inl ((f.block b hbW (fun hm => ?_) hrw).trans e)
          rcases List.mem_cons.1 hm with h6 | h6
          · exact ebt h6
          · rcases DP.L_mem.1 h6 with h7 | h7
            · exact hnb (List.mem_append.2 (.inl h7))
            · exact hnb (List.mem_append.2 (.inr (by simp [h7])))
    · exact .inr e
  · have hbW := Nat.lt_of_lt_of_le hb0 h4.size
    have hq2 : Rw D.ws W' b := by
      obtain ⟨a, ha, o, n, c, e⟩ := hq
      exact ⟨a, DP.ws_mem.2 (.inl ha), o, n, c, e⟩
    rcases own b (f.rows b hbW hq2) with h6 | h6
    · exact h4.rows b hb0 h6
    · exfalso
      cases hzz : s.z with
      | false => have h8 := h5 hzz; have h9 := (own_block hv h6).1; omega
      | true => exact hn' b (by rw [same hzz]; exact h6) hq
  · rw [hz] at hzz
    exact h5 hzz
/-- a drain's step turns nothing that putters' codes read. -/
theorem drain_mv (hb : BI D.P r' s.b W) (he : EI D r s W) (f : Fr (D.td :: D.P.L) D.P.ws W W') : Mv D.B (D.L ++ [D.td]) D.ws W W' := by
  obtain ⟨ev, hl, hv, hn⟩ := he.ev
  have h6 := hb.apart_ty hl (by decide) (by decide) (by decide) (by decide)
  obtain ⟨tv, d0, htd, _⟩ := he.td
  have heb : D.eb ∉ D.td :: D.P.L := fun hm => by
    rcases List.mem_cons.1 hm with e | hm
    · rw [e] at hl
      exact hl.unlike htd (by decide) rfl
    · exact h6.1 hm
  refine ⟨f.os, f.tape, f.output, f.size, fun b hb0 hnb hnr => .inl (f.block b hb0 (fun hm => ?_) fun q => hnr ?_), fun b hb0 hq => ?_⟩
  · rcases List.mem_cons.1 hm with e | hm
    · exact hnb (List.mem_append.2 (.inr (by simp [e])))
    · exact hnb (List.mem_append.2 (.inl (DP.L_mem.2 (.inl hm))))
  · obtain ⟨a, ha, o, n, c, e⟩ := q
    exact ⟨a, DP.ws_mem.2 (.inl ha), o, n, c, e⟩
  · obtain ⟨a, ha, o, n, c, e⟩ := hq
    rcases DP.ws_mem.1 ha with h7 | rfl
    · obtain ⟨a', ha', o', n', c', e'⟩ := f.rows b hb0 ⟨a, h7, o, n, c, e⟩
      exact ⟨a', DP.ws_mem.2 (.inl ha'), o', n', c', e'⟩
    · exact ⟨⟨D.eb, 0, none⟩, DP.ws_mem.2 (.inr rfl), o, n, c, (f.cell (p := ⟨D.eb, 0, none⟩) hl.lt heb h6.2).symm.trans e⟩
/-- what 'ended' has, behind a drain's step. -/
theorem drain_ei (hb : BI D.P r' s.b W) (he : EI D r s W) (f : Fr (D.td :: D.P.L) D.P.ws W W') {sb : BSt} {r1 d1 : Nat} {v : Value} (htd : Lies W' D.td 89 #[v, .int .i64 ((d1 + 1 : Nat) : Int)]) (hr : r1 ≤ r) : ∃ fv fc, EI D r1 ⟨sb, s.en, true, fv, fc⟩ W' := by
  obtain ⟨ev, hl, hv, hn⟩ := he.ev
  have h6 := hb.apart_ty hl (by decide) (by decide) (by decide) (by decide)
  obtain ⟨tv, d0, htd0, _⟩ := he.td
  have heb : D.eb ∉ D.td :: D.P.L := fun hm => by
    rcases List.mem_cons.1 hm with e | hm
    · rw [e] at hl
      exact hl.unlike htd0 (by decide) rfl
    · exact h6.1 hm
  have hint : ∀ g cur, Lies W g 3 cur → g ∉ D.td :: D.P.L := fun g cur h hm => by
    rcases List.mem_cons.1 hm with e | hm
    · rw [e] at h
      exact h.unlike htd0 (by decide) rfl
    · exact hb.apart_int h hm
  have hg : ∀ g, ev.ownBlock = some g → W'.heap[g]? = W.heap[g]? := fun g e => by
    obtain ⟨_, cur, h⟩ := own_block hv e
    exact f.block g h.lt (hint g cur h) (hn g e)
  have lE : Lies W' D.eb 31 #[ev] := f.lies hl heb h6.2
  have hlow : ∀ b, Rw D.P.ws W' b → D.B ≤ b := fun b hq => by
    by_cases hlt : b < W.heap.size
    · exact he.low b (f.rows b hlt hq)
    · have := he.be
      omega
  have hnn : ∀ g, ev.ownBlock = some g → ¬ Rw D.P.ws W' g := fun g e => by
    obtain ⟨_, cur, h⟩ := own_block hv e
    exact f.row h.lt (hn g e)
  have hfc : ∃ fc, ∀ g, ev.ownBlock = some g → Lies W' g 3 fc := by
    cases ho : ev.ownBlock with
    | none => exact ⟨#[], fun g e => by cases e⟩
    | some g0 =>
      obtain ⟨_, cur, h⟩ := own_block hv ho
      refine ⟨cur, fun g e => ?_⟩
      injection e with e
      subst e
      exact (hg g0 ho).trans h
  obtain ⟨fc, hfc⟩ := hfc
  exact ⟨ev, fc, ⟨ev, lE, own_keep hv hg, hnn⟩, ⟨v, d1 + 1, htd, by simp⟩, fun _ => ⟨lE, hfc⟩, hlow, he.he, Nat.le_trans (Nat.add_le_add_left hr _) he.size, Nat.le_trans he.be f.size⟩
/-- the drain's step, in memory. -/
theorem Lz0.step (hG : D.Good) (h : Lz0 D (r + 1) d q s.z W) (hI : (DM D).I (r + 1) s W) (hd : d < 4611686018427387904) (hne : bEnded q = false) (hW : (BM D.P).W q s.b) :
    Calls Try.prog 43 #[ptr D.td] W fun e w' => (∃ b, e = .returned (.bool b)) ∧ (∃ fv fc, (DM D).I r ⟨(bStep D.P.n q s.b).2, s.en, true, fv, fc⟩ w') ∧ Lz0 D r (d + 1) (bStep D.P.n q s.b).1 true w' ∧ Fr (D.td :: D.P.L) D.P.ws W w' ∧ Mv D.B (D.L ++ [D.td]) D.ws W w' := by
  obtain ⟨v, w0, h1, h2, h3, h4, h5⟩ := h.at_
  obtain ⟨hb, he⟩ := hI
  obtain ⟨ev, hl, _⟩ := he.ev
  have hGx := hG.P.wide [D.eb]
  have hM := bm_ok _ hGx
  have hbx : BI (D.P.wide [D.eb]) (r + 1) s.b W := hb.wide fun b hm => by
    rw [List.mem_singleton] at hm
    rw [hm]
    exact hl.lt
  have hap := hb.apart_ty h1 (by decide) (by decide) (by decide) (by decide)
  have hB : D.P.B ≤ D.td := hG.tl
  have tk : (BM (D.P.wide [D.eb])).Task (r + 1) q d D.td W := ⟨⟨v, h1, h2.mv h4⟩, hap.1, hB, hap.2⟩
  refine (step_g hM tk hbx (fun _ => hW) hd).mono ?_
  rintro e w' ⟨rfl, a1, a2, a3, a4⟩
  have e1 : (BM (D.P.wide [D.eb])).sQ q s.b = (bStep D.P.n q s.b).1 := by unfold Gm.sQ; rw [if_neg (show ¬ (BM (D.P.wide [D.eb])).ended q = true from fun hx => by have hx : bEnded q = true := hx; rw [hne] at hx; cases hx)]; rfl
  have e2 : (BM (D.P.wide [D.eb])).sS q s.b = (bStep D.P.n q s.b).2 := by unfold Gm.sS; rw [if_neg (show ¬ (BM (D.P.wide [D.eb])).ended q = true from fun hx => by have hx : bEnded q = true := hx; rw [hne] at hx; cases hx)]; rfl
  have e3 : (BM (D.P.wide [D.eb])).sD q d = d + 1 := by unfold Gm.sD; rw [if_neg (show ¬ (BM (D.P.wide [D.eb])).ended q = true from fun hx => by have hx : bEnded q = true := hx; rw [hne] at hx; cases hx)]
  rw [e1, e3] at a1
  rw [e2] at a2
  obtain ⟨v', l', c'⟩ := a1.at_
  have f : Fr (D.td :: D.P.L) D.P.ws W w' := a3
  have hb' : BI D.P r (bStep D.P.n q s.b).2 w' := BI.narrow (P := D.P) a2 hG.ex
  obtain ⟨fv, fc, hE⟩ := drain_ei (sb := (bStep D.P.n q s.b).2) (r1 := r) hb he f l' (by omega)
  exact ⟨⟨_, rfl⟩, ⟨fv, fc, hb', hE⟩, ⟨v', w', l', c', Nat.lt_of_lt_of_le hl.lt f.size, Mv.refl _ _ _ _, fun e => by cases e⟩, f, drain_mv hb he f⟩
end

end Go.Proofs.Ythkklcmmbpffiaa

/- The inbox: picks of a drain and of putters that tell: what holds between them. -/
namespace Go.Proofs.Ythkklcmmbpffiaa
open Go.RowKit
set_option maxRecDepth 100000

theorem isPu_step (n : Nat) (q : BPr) (s : BSt) (h : isPu q) : isPu (bStep n q s).1 := by
  have h1 : isP q := by
    rcases q with ⟨m, l, k⟩
    cases m <;> first | trivial | exact h.elim
  have h2 := (step_own n q s s.got s.ends h1).2
  generalize (bStep n q s).1 = q' at *
  rcases q' with ⟨m, l, k⟩
  cases m <;> first | trivial | exact h2.elim
theorem isDr_step (n : Nat) (q : BPr) (s : BSt) (h : isDr q) (hn : q.n = 0) : isDr (bStep n q s).1 ∧ (bStep n q s).1.n = 0 := by
  have he := bStep_n n q s
  refine ⟨?_, by omega⟩
  rcases q with ⟨m, l, k⟩
  have hn : k = 0 := hn
  subst hn
  have hE : ∀ x s', isDr (eachD 0 x s').1 := fun x s' => by
    unfold eachD
    split <;> trivial
  cases m with
  | done => exact h
  | dR =>
    unfold bStep
    dsimp only
    split
    · exact hE _ _
    · trivial
  | dT o =>
    unfold bStep
    dsimp only
    split
    · exact hE _ _
    · trivial
  | eN i => trivial
  | eI x => exact hE _ _
  | _ => exact h.elim
structure Pu9 (all : List Int) (T : Nat) (s : DSt) (q : Nat → BPr) (hs : Nat → List Int) (b fs : List Int) : Prop where
  gb : Gb 20 5 T all q s.b hs b fs
  few : FewD q s.b hs b fs
  kn : Kn s.en (q 0) (hs 0) b s.b.got
  wait : s.z = false → waitD (q 0)
  pu : ∀ j, 0 < j → j < 5 → isPu (q j)
  dr : isDr (q 0)
  n0 : (q 0).n = 0
  live : ∀ x : Int, 0 ≤ x → getA s.b.l (x + (2 + 20)) ≠ 1
section
variable {all : List Int} {T : Nat} {s : DSt} {q : Nat → BPr} {hs : Nat → List Int} {b fs : List Int}
theorem Pu9.drain (h : Pu9 all T s q hs b fs) (hT : T < 4000000000) (hne : bEnded (q 0) = false) (fv : Value) (fc : Array Value) : ∃ hs' b' fs', Pu9 all (T + 1) ⟨(bStep 20 (q 0) s.b).2, s.en, true, fv, fc⟩ (updF q 0 (bStep 20 (q 0) s.b).1) hs' b' fs' := by
  obtain ⟨c', b', fs', g1, g2, _⟩ := h.gb.step (j := 0) (by omega) hT (by omega)
  have hw' := g1.wk 0 (by omega)
  rw [updF_same, updF_same] at hw'
  have hk := Kn.drains h.gb.cb (h.gb.wk 0 (by omega)) hw' rfl h.dr h.n0 hne g2 h.kn
  have hd := isDr_step 20 (q 0) s.b h.dr h.n0
  have hf := fewD_keeps 20 5 all 0 T q s.b hs b fs c' b' fs' h.gb h.few hne g1 g2
  refine ⟨_, b', fs', ⟨g1, hf, by rw [updF_same, updF_same]; exact hk, fun e => (by cases e), fun j h0 h5 => ?_, by rw [updF_same]; exact hd.1, by rw [updF_same]; exact hd.2, fun x hx => ?_⟩⟩
  · rw [updF_ne _ _ (by omega)]
    exact h.pu j h0 h5
  · have := h.gb.marks (j := 0) (by omega) hx
    show getA (bStep 20 (q 0) s.b).2.l (x + (2 + 20)) ≠ 1
    have e : getA (bStep 20 (q 0) s.b).2.l (x + (2 + ((20 : Nat) : Int))) = getA s.b.l (x + (2 + ((20 : Nat) : Int))) := this
    have e2 : (x + (2 + 20) : Int) = x + (2 + ((20 : Nat) : Int)) := rfl
    rw [e2, e]
    exact h.live x hx
theorem Pu9.put (h : Pu9 all T s q hs b fs) (hT : T < 4000000000) {j : Nat} (h0 : 0 < j) (h5 : j < 5) (hne : bEnded (q j) = false) : ∃ hs' b' fs', Pu9 all (T + 1) (dStep 20 (q j) s).2 (updF q j (dStep 20 (q j) s).1) hs' b' fs' := by
  obtain ⟨c', b', fs', g1, g2, _⟩ := h.gb.step (j := j) h5 hT (by omega)
  have hw' := g1.wk j h5
  rw [updF_same, updF_same] at hw'
  have hp' := isPu_step 20 (q j) s.b (h.pu j h0 h5)
  have hl2 : ∀ x : Int, 0 ≤ x → getA (bStep 20 (q j) s.b).2.l (x + (2 + 20)) ≠ 1 := fun x hx => by
    have e : getA (bStep 20 (q j) s.b).2.l (x + (2 + ((20 : Nat) : Int))) = getA s.b.l (x + (2 + ((20 : Nat) : Int))) := h.gb.marks (j := j) h5 hx
    have e2 : (x + (2 + 20) : Int) = x + (2 + ((20 : Nat) : Int)) := rfl
    rw [e2, e]
    exact h.live x hx
  have hc0 : ∀ x, x ∈ c' → 0 ≤ x := fun x hx => (g1.mem_hs h5 (by rw [updF_same]; exact hx)).1
  obtain ⟨k1, k2⟩ := Kn.puts (n := 20) (fun x hx => hl2 x (hc0 x hx)) (h.gb.wk j h5) hw' (h.pu j h0 h5) hp' hne g2 h.kn
  have hf := fewD_keeps 20 5 all j T q s.b hs b fs c' b' fs' h.gb h.few hne g1 g2
  have hq0 : (updF q j (bStep 20 (q j) s.b).1) 0 = q 0 := updF_ne _ _ (by omega)
  have hh0 : (updF hs j c') 0 = hs 0 := updF_ne _ _ (by omega)
  have base : ∀ en', Kn en' (q 0) (hs 0) b' (bStep 20 (q j) s.b).2.got → Pu9 all (T + 1) ⟨(bStep 20 (q j) s.b).2, en', s.z, s.fv, s.fc⟩ (updF q j (bStep 20 (q j) s.b).1) (updF hs j c') b' fs' := fun en' hk => ⟨g1, hf, by rw [hq0, hh0]; exact hk, fun e => by rw [hq0]; exact h.wait e, fun i hi0 hi5 => by
    by_cases e : i = j
    · subst e; rw [updF_same]; exact hp'
    · rw [updF_ne _ _ e]; exact h.pu i hi0 hi5, by rw [hq0]; exact h.dr, by rw [hq0]; exact h.n0, hl2⟩
  have plain : (dStep 20 (q j) s).2 = ⟨(bStep 20 (q j) s.b).2, s.en, s.z, s.fv, s.fc⟩ → ∃ hs' b' fs', Pu9 all (T + 1) (dStep 20 (q j) s).2 (updF q j (dStep 20 (q j) s).1) hs' b' fs' := fun e => by
    rw [e]
    exact ⟨_, b', fs', base s.en k1⟩
  have hd1 : (dStep 20 (q j) s).1 = (bStep 20 (q j) s.b).1 := rfl
  rcases hqj : q j with ⟨m, l, k⟩
  cases m with
  | pU o =>
    by_cases hc : casB s.b.l 0 o = true
    · by_cases hz : s.z = false
      · have hl : l ≠ [] := by have h9 := h.gb.wk j h5; rw [hqj] at h9; exact h9.2.1
        have e2 : (dStep 20 (q j) s).2 = ⟨(bStep 20 (q j) s.b).2, s.en ++ [l.headD 0], s.z, s.fv, s.fc⟩ := by
          rw [hqj]
          unfold dStep
          dsimp only
          rw [if_pos hc]
          unfold DSt.told
          rw [if_pos hz]
        have eq' : (bStep 20 (q j) s.b).1 = startP l.tail := by
          rw [hqj]
          unfold bStep
          dsimp only
          rw [if_pos hc]
        have hlt : (startP l.tail).l = l.tail := startP_l _
        have hin : l.headD 0 ∈ b' := by
          rw [eq'] at g2
          have hql : (q j).l = l := by rw [hqj]
          unfold How at g2
          rw [hql, hlt] at g2
          obtain ⟨x, l', rfl⟩ : ∃ x l', l = x :: l' := by
            cases l with
            | nil => exact absurd rfl hl
            | cons x l' => exact ⟨x, l', rfl⟩
          simp only [List.tail_cons, List.headD_cons] at g2 ⊢
          have no : l' ≠ x :: l' := fun e => by
            have := congrArg List.length e
            simp at this
          rcases g2 with ⟨e, _⟩ | ⟨t, e, _, _, _, e3, _⟩ | ⟨i, e, _⟩ | ⟨i, e, _⟩ | ⟨_, e, _⟩ | ⟨i, _, e, _⟩ | ⟨_, e, _⟩
          · exact absurd e no
          · injection e with e
            rw [e3, e]
            simp
          · exact absurd e no
          · exact absurd e no
          · cases e
          · cases e
          · cases e
        rw [← hqj, e2, hd1]
        refine ⟨_, b', fs', base _ ⟨fun hw t ht => ?_, fun hx => absurd (h.wait hz) hx⟩⟩
        rcases List.mem_append.1 ht with h1 | h1
        · exact k1.w hw t h1
        · rw [List.mem_singleton] at h1; rw [h1]; exact hin
      · rw [← hqj]
        refine plain ?_
        rw [hqj]
        unfold dStep
        dsimp only
        rw [if_pos hc]
        unfold DSt.told
        rw [if_neg hz]
    · rw [← hqj]
      refine plain ?_
      rw [hqj]
      unfold dStep
      dsimp only
      rw [if_neg hc]
  | _ => rw [← hqj]; exact plain (by rw [hqj]; rfl)
end

end Go.Proofs.Ythkklcmmbpffiaa

/- Picks over an invariant of whatever kind: tasks of more than one machine. -/
namespace Go.Proofs.Ythkklcmmbpffiaa
open Go.RowKit

set_option maxHeartbeats 1000000 in
set_option maxRecDepth 100000 in
theorem run_inv (Inv : Nat → World → Prop) (A B : Option Addr) (N ca n cb : Nat) (ts : Nat → Nat) (xs : List Int) (w : World) (hN : N ≤ 1000) (hn : n ≤ 1000000) (hlen : xs.length = n) (hwf : ∀ y, y ∈ xs → (Lit.int .i64 y).wf = true)
    (hT : ∀ m W, m ≤ n → Inv m W → 0 < N → ∃ a, A = some a ∧ ∀ i, i < N → W.cell? (a.add i) = some (ptr (ts i)))
    (hX : ∀ m W, m ≤ n → Inv m W → 0 < n → ∃ b, B = some b ∧ ∀ i, i < n → W.cell? (b.add i) = some (.int .i64 (xs.getD i 0)))
    (skip : ∀ m W, m < n → Inv m W → Inv (m + 1) W)
    (hE : ∀ m W j, m < n → j < N → Inv m W → ∃ bb, (Calls Try.prog 25 #[ptr (ts j)] W fun e w' => e = .returned (.bool bb) ∧ w' = W) ∧ (bb = false → Calls Try.prog 43 #[ptr (ts j)] W fun e w' => (∃ b2, e = .returned (.bool b2)) ∧ Inv (m + 1) w'))
    (h0 : Inv 0 w) :
    Calls Try.prog 24 #[.slice A N ca, .slice B n cb] w fun e w' => (∃ v, e = .returned v) ∧ Inv n w' := by
  have HT := Lib.hid hT
  have HX := Lib.hid hX
  have HS := Lib.hid skip
  have HE := Lib.hid hE
  have HW := Lib.hid hwf
  have HL := Lib.hid hlen
  clear hT hX skip hE hwf hlen
  go_enter Try.func24, Try.ntmps24
  go_wp2_with fail
  go_loopw [5, 10] (fun u i wr => ∃ m c : Nat, m ≤ n ∧ i = .int .i64 (m : Int) ∧ c ≤ m ∧ u = .int .i64 (c : Int) ∧ Inv m wr) (fun _ i _ => n - (intOf i).toNat)
  case atStart => exact ⟨0, 0, by omega, rfl, by omega, rfl, h0⟩
  case round =>
    clear h0
    obtain ⟨m, c, hmn, rfl, hcm, rfl, hI⟩ := hrel
    generalize wr = W at *
    by_cases hlt : m < n
    · obtain ⟨b, rfl, hcell⟩ := HX.out m W hmn hI (by omega)
      have hcx := hcell m hlt
      have hwx := i64_of_wf (HW.out (xs.getD m 0) (by
        have hl := HL.out
        rw [List.getD_eq_getElem?_getD, List.getElem?_eq_getElem (by omega)]
        exact List.getElem_mem _))
      have HSK := Lib.hid (HS.out m W hlt hI)
      clear hcell
      generalize xs.getD m 0 = x at *
      rcases (by omega : x < 0 ∨ 0 ≤ x ∧ (N : Int) ≤ x ∨ 0 ≤ x ∧ x < N) with hx | ⟨hx, hx2⟩ | ⟨hx, hx2⟩
      · clear hI
        go_wp2
        go_roundw
        case rel => exact ⟨m + 1, c, by omega, by go_num, by omega, rfl, HSK.out⟩
        case measure => simp [intOf]; omega
      · clear hI
        go_wp2
        go_roundw
        case rel => exact ⟨m + 1, c, by omega, by go_num, by omega, rfl, HSK.out⟩
        case measure => simp [intOf]; omega
      · obtain ⟨j, rfl⟩ := Int.eq_ofNat_of_zero_le hx
        have hj : j < N := by omega
        obtain ⟨a, rfl, ha2⟩ := HT.out m W hmn hI (by omega)
        have hca := ha2 j hj
        obtain ⟨bb, c1, c2⟩ := HE.out m W j hlt hj hI
        clear ha2 hI
        cases bb with
        | true =>
          clear c2
          go_wp2_with fail
          refine c1.mono ?_
          rintro e w' ⟨rfl, rfl⟩
          go_wp2
          go_roundw
          case rel => exact ⟨m + 1, c, by omega, by go_num, by omega, rfl, HSK.out⟩
          case measure => simp [intOf]; omega
        | false =>
          have c3 := c2 rfl
          clear HSK c2
          go_wp2_with fail
          refine c1.mono ?_
          rintro e w' ⟨rfl, rfl⟩
          go_wp2_with fail
          refine c3.mono ?_
          rintro e w1 ⟨⟨b2, rfl⟩, hI2⟩
          have HI2 := Lib.hid hI2
          clear hI2
          go_wp2
          go_roundw
          case rel => exact ⟨m + 1, c + 1, by omega, by go_num, by omega, by go_num, HI2.out⟩
          case measure => simp [intOf]; omega
    · obtain rfl : m = n := by omega
      have HI := Lib.hid hI
      clear hI
      go_wp2
      go_ret
      exact ⟨⟨_, rfl⟩, HI.out⟩

end Go.Proofs.Ythkklcmmbpffiaa

/- The inbox: picks of a drain and of putters that tell, in memory. -/
namespace Go.Proofs.Ythkklcmmbpffiaa
open Go.RowKit Go.ChangeShapes Go.WideShapes
set_option maxRecDepth 100000

structure Dv9 (w0 : World) (D : DP) (all : List Int) (ts : Nat → Nat) (tv : Value) (r m : Nat) (W : World) : Prop where
  at_ : ∃ (s : DSt) (q : Nat → BPr) (d : Nat → Nat) (T : Nat) (hs : Nat → List Int) (b fs : List Int), (DM D).I r s W ∧ Pu9 all T s q hs b fs ∧ Lz0 D r (d 0) (q 0) s.z W ∧ (∀ j, 0 < j → j < 5 → (DM D).Task r (q j) (d j) (ts j) W) ∧ T ≤ m ∧ ∀ i, i < 5 → d i ≤ m
  t0 : ts 0 = D.td
  inj : ∀ i j, i < 5 → j < 5 → ts i = ts j → i = j
  tv : VRow W D.P.B 35 tv ((List.range 5).map fun k => ptr (ts k))
  be : Below D.P.B w0 W
  dv : DVx D W
section
variable {w0 : World} {D : DP} {all : List Int} {ts : Nat → Nat} {tv : Value} {r m : Nat} {W : World}
theorem Dv9.less (hG : D.Good) (h : Dv9 w0 D all ts tv (r + 1) m W) : Dv9 w0 D all ts tv r (m + 1) W := by
  obtain ⟨s, q, d, T, hs, b, fs, h1, h2, h3, h4, h5, h6⟩ := h.at_
  obtain ⟨v, w1, a1, a2, a3⟩ := h3.at_
  exact ⟨⟨s, q, d, T, hs, b, fs, (dm_ok D hG).less _ _ _ h1, h2, ⟨v, w1, a1, a2.less, a3⟩, fun j h0 h5 => (h4 j h0 h5).less, by omega, fun i hi => by have := h6 i hi; omega⟩, h.t0, h.inj, h.tv, h.be, h.dv⟩
theorem Dv9.step0 (hG : D.Good) (hP : D.P.n = 20) (h : Dv9 w0 D all ts tv (r + 1) m W) (hm : m < 1000000) : ∃ bb, (Calls Try.prog 25 #[ptr (ts 0)] W fun e w' => e = .returned (.bool bb) ∧ w' = W) ∧ (bb = false → Calls Try.prog 43 #[ptr (ts 0)] W fun e w' => (∃ b2, e = .returned (.bool b2)) ∧ Dv9 w0 D all ts tv r (m + 1) w') := by
  obtain ⟨s, q, d, T, hs, b, fs, h1, h2, h3, h4, h5, h6⟩ := h.at_
  obtain ⟨v, w1, a1, a2, a3, a4, a5⟩ := h3.at_
  have hb : BI D.P (r + 1) s.b W := h1.1
  have hap := hb.apart_ty a1 (by decide) (by decide) (by decide) (by decide)
  have tk : (BM (D.P.wide [D.eb])).Task (r + 1) (q 0) (d 0) D.td W := ⟨⟨v, a1, a2.mv a4⟩, hap.1, hG.tl, hap.2⟩
  rw [h.t0]
  refine ⟨bEnded (q 0), ended_g tk, fun hne => ?_⟩
  have hWq : (BM D.P).W (q 0) s.b := h2.gb.w (by omega) (by omega)
  refine (h3.step hG h1 (by have := h6 0 (by omega); omega) hne hWq).mono ?_
  rintro e w' ⟨he, ⟨fv, fc, b1⟩, b2, b3, b4⟩
  obtain ⟨hs', b', fs', hp⟩ := h2.drain (by omega) hne fv fc
  rw [hP] at b1 b2
  refine ⟨he, ⟨⟨_, updF q 0 (bStep 20 (q 0) s.b).1, updF d 0 (d 0 + 1), T + 1, hs', b', fs', b1, hp, by rw [updF_same, updF_same]; exact b2, fun j h0 hj5 => ?_, by omega, fun i hi => ?_⟩, h.t0, h.inj, ?_, ?_, h.dv.mv b4⟩⟩
  · rw [updF_ne _ _ (by omega), updF_ne _ _ (by omega)]
    have htk := (h4 j h0 hj5).less
    obtain ⟨u, hl, _⟩ := htk.at_
    have hpl := hb.apart_ty hl (by decide) (by decide) (by decide) (by decide)
    exact htk.keep (b3.block _ hl.lt (fun hm => by
      rcases List.mem_cons.1 hm with e | hm
      · rw [← h.t0] at e
        have := h.inj _ _ hj5 (by omega) e
        omega
      · exact hpl.1 hm) hpl.2) b4
  · have := h6 i hi
    by_cases e : i = 0
    · subst e; rw [updF_same]; omega
    · rw [updF_ne _ _ e]; omega
  · refine h.tv.kept fun g hg => ?_
    obtain ⟨_, cur, hl⟩ := h.tv.lies hg
    have hx := hb.apart_ty hl (by decide) (by decide) (by decide) (by decide)
    refine b3.block g hl.lt (fun hm => ?_) hx.2
    rcases List.mem_cons.1 hm with e | hm
    · rw [e] at hl
      exact hl.unlike a1 (by decide) rfl
    · exact hx.1 hm
  · exact h.be.trans (BI.below hG.P hb (fun y hy => by
      rcases List.mem_cons.1 hy with e | hy
      · right; rw [e]; exact hG.tl
      · exact .inl hy) b3)
theorem dStep_z (n : Nat) (q : BPr) (s : DSt) : (dStep n q s).2.z = s.z ∧ (dStep n q s).2.fv = s.fv ∧ (dStep n q s).2.fc = s.fc := by
  rcases q with ⟨m, l, k⟩
  cases m with
  | pU o =>
    unfold dStep
    dsimp only
    split
    · unfold DSt.told
      split <;> exact ⟨rfl, rfl, rfl⟩
    · exact ⟨rfl, rfl, rfl⟩
  | _ => exact ⟨rfl, rfl, rfl⟩
theorem Dv9.stepj (hG : D.Good) (hP : D.P.n = 20) (h : Dv9 w0 D all ts tv (r + 1) m W) (hm : m < 1000000) {j : Nat} (h0 : 0 < j) (h5j : j < 5) : ∃ bb, (Calls Try.prog 25 #[ptr (ts j)] W fun e w' => e = .returned (.bool bb) ∧ w' = W) ∧ (bb = false → Calls Try.prog 43 #[ptr (ts j)] W fun e w' => (∃ b2, e = .returned (.bool b2)) ∧ Dv9 w0 D all ts tv r (m + 1) w') := by
  obtain ⟨s, q, d, T, hs, b, fs, h1, h2, h3, h4, h5, h6⟩ := h.at_
  have hM := dm_ok D hG
  have tk := h4 j h0 h5j
  have hb : BI D.P (r + 1) s.b W := h1.1
  refine ⟨bEnded (q j), ended_g tk, fun hne => ?_⟩
  have hWq : (BM D.P).W (q j) s.b := h2.gb.w (by omega) h5j
  have hne' : ¬ (DM D).ended (q j) = true := fun hx => by have hx : bEnded (q j) = true := hx; rw [hne] at hx; cases hx
  refine (step_g hM tk h1 (fun _ => hWq) (by have := h6 j h5j; omega)).mono ?_
  rintro e w' ⟨rfl, b1, b2, b3, b4⟩
  have e1 : (DM D).sQ (q j) s = (dStep 20 (q j) s).1 := by unfold Gm.sQ; rw [if_neg hne', ← hP]; rfl
  have e2 : (DM D).sS (q j) s = (dStep 20 (q j) s).2 := by unfold Gm.sS; rw [if_neg hne', ← hP]; rfl
  have e3 : (DM D).sD (q j) (d j) = d j + 1 := by unfold Gm.sD; rw [if_neg hne']
  rw [e1, e3] at b1
  rw [e2] at b2
  obtain ⟨hs', b', fs', hp⟩ := h2.put (by omega) h0 h5j hne
  obtain ⟨z1, z2, z3⟩ := dStep_z 20 (q j) s
  have hI := hM.less _ _ _ h1
  have f : Fr (ts j :: D.L) D.ws W w' := b3
  have hL0 : Lz0 D r (d 0) (q 0) s.z W := by
    obtain ⟨v, w1, a1, a2, a3⟩ := h3.at_
    exact ⟨v, w1, a1, a2.less, a3⟩
  have hL1 := hL0.puts hG hI.2 b2.2 z1 z2 z3 f tk.is hI.1
  obtain ⟨ev, hl, hv, _⟩ := h1.2.ev
  have hrw : ∀ {g : Nat} {ty : TypeId} {cs : Array Value}, Lies W g ty cs → ty ≠ 101 → ty ≠ 111 → ty ≠ 72 → ty ≠ 3 → ty ≠ 31 → g ∉ D.L ∧ ¬ Rw D.ws W g := fun {g ty cs} hlg n1 n2 n3 n4 n5 => by
    have hx := hb.apart_ty hlg n1 n2 n3 n4
    refine ⟨fun hm => ?_, fun hq => ?_⟩
    · rcases DP.L_mem.1 hm with h7 | h7
      · exact hx.1 h7
      · rw [h7] at hlg
        exact hlg.unlike hl n5 rfl
    · obtain ⟨a, ha, o, n, c, e⟩ := hq
      rcases DP.ws_mem.1 ha with h7 | rfl
      · exact hx.2 ⟨a, h7, o, n, c, e⟩
      · rw [show W.cell? ⟨D.eb, 0, none⟩ = some ev from hl.cell 0] at e
        injection e with e
        obtain ⟨_, cur, h7⟩ := own_lies hv e
        exact hlg.unlike h7 n4 rfl
  have hlow := hG.P.low
  refine ⟨⟨_, rfl⟩, ⟨⟨(dStep 20 (q j) s).2, updF q j (dStep 20 (q j) s).1, updF d j (d j + 1), T + 1, hs', b', fs', b2, hp, by rw [updF_ne _ _ (by omega), updF_ne _ _ (by omega)]; exact hL1, fun i hi0 hi5 => ?_, by omega, fun i hi => ?_⟩, h.t0, h.inj, ?_, ?_, h.dv.mv b4⟩⟩
  · by_cases e : i = j
    · subst e
      rw [updF_same, updF_same]
      exact b1
    · rw [updF_ne _ _ e, updF_ne _ _ e]
      have htk := (h4 i hi0 hi5).less
      obtain ⟨u, hlu, _⟩ := htk.at_
      have hx := hrw hlu (by decide) (by decide) (by decide) (by decide) (by decide)
      exact htk.keep (f.block _ hlu.lt (fun hm => by
        rcases List.mem_cons.1 hm with e9 | hm
        · exact e (h.inj _ _ hi5 h5j e9)
        · exact hx.1 hm) hx.2) b4
  · have := h6 i hi
    have := h6 j h5j
    by_cases e : i = j
    · subst e; rw [updF_same]; omega
    · rw [updF_ne _ _ e]; omega
  · refine h.tv.kept fun g hg => ?_
    obtain ⟨_, cur, hlg⟩ := h.tv.lies hg
    have hx := hrw hlg (by decide) (by decide) (by decide) (by decide) (by decide)
    refine f.block g hlg.lt (fun hm => ?_) hx.2
    rcases List.mem_cons.1 hm with e | hm
    · obtain ⟨u, hlu, _⟩ := tk.at_
      rw [e] at hlg
      exact hlg.unlike hlu (by decide) rfl
    · exact hx.1 hm
  · refine h.be.trans (f.below (fun y hy => ?_) (fun y hy => ?_) ((bm_ok D.P hG.P).okw _ _ _ hb).base)
    · rcases List.mem_cons.1 hy with e | hy
      · have h7 : D.B ≤ ts j := tk.base
        have := hG.lo
        omega
      · rcases DP.L_mem.1 hy with h7 | h7
        · exact bm_low D.P hG.P y h7
        · rw [h7]; exact hG.el
    · have h7 : D.B ≤ y := (hM.okw _ _ _ h1).row y hy |>.1
      exact Nat.le_trans hG.lo h7
end

end Go.Proofs.Ythkklcmmbpffiaa

/- The inbox: the drain's task, and those of putters that tell, as they are made; how the drain is finished. -/
namespace Go.Proofs.Ythkklcmmbpffiaa
open Go.RowKit Go.ChangeShapes Go.WideShapes
set_option maxRecDepth 100000

theorem VRow.down {W : World} {B B' : Nat} {E : TypeId} {v : Value} {vs : List Value} (h : VRow W B E v vs) (k : B' ≤ B) : VRow W B' E v vs := by
  refine ⟨⟨h.own.1, ?_⟩⟩
  rcases h.own.2 with h1 | ⟨g, cap, cur, h1, h2, h3⟩
  · exact .inl h1
  · exact .inr ⟨g, cap, cur, h1, Nat.le_trans k h2, h3⟩
/-- the box, and what tells whether its tickets are dead; the drain. -/
structure DCtx (D : DP) (bx ba bn : Nat) (W : World) : Prop where
  box : (DM D).Bx W bx 62 (bxC D.P.p 0 1 46 47 #[] #[ptr ba, ptr bn])
  xa : (DM D).Bx W ba 24 #[ptr D.P.p]
  xn : (DM D).Bx W bn 3 #[.int .i64 (D.P.n : Int)]
  xd : DVx D W
/-- what stays as it is while tasks are made. -/
structure Me9 (w0 : World) (D : DP) (bx ba bn : Nat) (s0 : BSt) (W : World) : Prop where
  lz : Lz0 D 3000 0 (startD 1) false W
  si : (DM D).I 3000 ⟨s0, [], false, .nilFunc, #[]⟩ W
  ctx : DCtx D bx ba bn W
  be : Below D.P.B w0 W
  nor : ∀ b, ¬ Rw D.ws W b
structure Td9 (D : DP) (m : Nat → Nat) (N : Nat) (ts : Nat → Nat) (tv : Value) (W : World) : Prop where
  t0 : ts 0 = D.td
  tk : ∀ k, 0 < k → k < N → (DM D).Task 3000 (qsF 1 m k) 0 (ts k) W
  inj : ∀ a b, a < N → b < N → ts a = ts b → a = b
  lt : ∀ a, a < N → ts a < W.heap.size
  tv : VRow W D.B 35 tv ((List.range N).map fun k => ptr (ts k))
structure Md9 (w0 : World) (D : DP) (bx ba bn : Nat) (m : Nat → Nat) (s0 : BSt) (i : Nat) (tv : Value) (W : World) : Prop where
  at_ : ∃ ts, Td9 D m (i + 1) ts tv W
  me : Me9 w0 D bx ba bn s0 W
section
variable {w0 : World} {D : DP} {bx ba bn i N : Nat} {m : Nat → Nat} {s0 : BSt} {tv tv' cv v : Value} {W W1 W2 W4 : World} {K : List Nat} {ts : Nat → Nat}
theorem Lz0.keep (hG : D.Good) {r r' d : Nat} {q : BPr} {z : Bool} {sb : BSt} (h : Lz0 D r d q z W) (hb : BI D.P r' sb W) (he : D.eb < W.heap.size) (t : Turns K W W1) (hK : ∀ b, b ∈ K → IsTask D.P.B W b) (htd : D.td ∉ K) : Lz0 D r d q z W1 := by
  obtain ⟨v, w1, h1, h2, h3, h4, h5⟩ := h.at_
  have hbx : BI (D.P.wide [D.eb]) r' sb W := hb.wide fun b hm => by
    rw [List.mem_singleton] at hm
    rw [hm]
    exact he
  have hmv : Mv D.P.B (D.P.L ++ [D.eb]) D.P.ws W W1 := mv_tasks (hG.P.wide [D.eb]) hbx t hK
  exact ⟨v, w1, h1.turn t htd, h2, h3, h4.trans hmv, h5⟩
theorem Me9.keep (hG : D.Good) (h : Me9 w0 D bx ba bn s0 W) (t : Turns K W W1) (hK : ∀ b, b ∈ K → D.B ≤ b ∧ ∃ cs, Lies W b 35 cs) : Me9 w0 D bx ba bn s0 W1 ∧ Mv D.B (D.L ++ [D.td]) D.ws W W1 := by
  have hM := dm_ok D hG
  have hKt : ∀ b, b ∈ K → IsTask D.B W b := fun b hb => by
    obtain ⟨h1, cs, h2⟩ := hK b hb
    exact ⟨h1, _, _, by decide, h2⟩
  have ne : ∀ {b : Nat} {ty : TypeId} {cs : Array Value}, Lies W b ty cs → ty ≠ 35 → b ∉ K := fun hl hx hm => by
    obtain ⟨_, cs, h2⟩ := hK _ hm
    exact hl.unlike h2 hx rfl
  obtain ⟨ev, hev, _⟩ := h.si.2.ev
  obtain ⟨tdv, d, htd, _⟩ := h.si.2.td
  obtain ⟨vo, uo, hlo, _⟩ := h.si.1.ow
  have hws : ∀ x, x ∈ D.ws → x.block < W.heap.size ∧ x.block ∉ K := fun x hx => by
    rcases DP.ws_mem.1 hx with h1 | rfl
    · have : x.block = D.P.ob := by rcases BP.ws_mem.1 h1 with rfl | rfl <;> rfl
      rw [this]
      exact ⟨hlo.lt, ne hlo (by decide)⟩
    · exact ⟨hev.lt, ne hev (by decide)⟩
  have mv : Mv D.B (D.L ++ [D.td]) D.ws W W1 := Mv.of_turns t (fun b hb => .inr (.inr (hKt b hb))) hws
  have h0 : Mv D.B [] [] W W1 := Mv.of_turns t (fun b hb => .inr (.inr (hKt b hb))) fun x hx => (by cases hx)
  refine ⟨⟨h.lz.keep hG h.si.1 hev.lt t (fun b hb => (hKt b hb).down hG.lo) (ne htd (by decide)), hM.task _ _ _ _ h0 h.si, ⟨h.ctx.box.mv mv, h.ctx.xa.mv mv, h.ctx.xn.mv mv, h.ctx.xd.mv mv⟩, h.be.trans (t.below (fun b hb => Nat.le_trans hG.lo (hK b hb).1) ((bm_ok D.P hG.P).okw _ _ _ h.si.1).base), fun b q => h.nor b (q.same fun x hx => t.cell (hws x hx).1 (hws x hx).2)⟩, mv⟩
theorem Td9.turns (h : Td9 D m N ts tv W) (t : Turns [] W W1) (mv : Mv D.B (D.L ++ [D.td]) D.ws W W1) : Td9 D m N ts tv W1 :=
  ⟨h.t0, fun k h0 hk => (h.tk k h0 hk).keep (t.block _ (h.tk k h0 hk).lt (by simp)) mv, h.inj, fun a ha => Nat.lt_of_lt_of_le (h.lt a ha) t.size, h.tv.turns t (by simp)⟩
theorem Md9.turns (hG : D.Good) (h : Md9 w0 D bx ba bn m s0 i tv W) (t : Turns [] W W1) : Md9 w0 D bx ba bn m s0 i tv W1 := by
  obtain ⟨ts, hts⟩ := h.at_
  obtain ⟨a1, a2⟩ := h.me.keep hG t (by simp)
  exact ⟨⟨ts, hts.turns t a2⟩, a1⟩
/-- numbers of the law's own, that codes read. -/
theorem Me9.il (h : Me9 w0 D bx ba bn s0 W) {B : Nat} {xs : List Int} (hr : IRow W B v xs) (hl : xs.length ≤ 100000) : ∃ A cp, v = .slice A xs.length cp ∧ xs.length ≤ cp ∧ ILD D W A xs := by
  obtain ⟨A, cp, e, hr'⟩ := hr.row
  obtain ⟨A', cp', e', hle⟩ := own_slice (n := xs.length) hr.own
  rw [e] at e'
  injection e' with e1 _ e3
  subst e1
  subst e3
  refine ⟨A, cp, e, hle, hl, fun hn => ?_⟩
  obtain ⟨a, ea, hb, hc⟩ := hr'.at_ hn
  have ho : v.ownBlock = some a.block := by rw [e, ea]; rfl
  obtain ⟨_, cur, hlg⟩ := own_block hr.own ho
  obtain ⟨ev, hev, _⟩ := h.si.2.ev
  obtain ⟨tdv, d, htd, _⟩ := h.si.2.td
  refine ⟨a, ea, hb, fun hm => ?_, h.nor _, fun q => q.ne hlg (by decide), hc⟩
  rcases List.mem_append.1 hm with h1 | h1
  · rcases DP.L_mem.1 h1 with h2 | h2
    · exact h.si.1.apart_int hlg h2
    · rw [h2] at hlg
      exact hlg.unlike hev (by decide) rfl
  · rw [List.mem_singleton] at h1
    rw [h1] at hlg
    exact hlg.unlike htd (by decide) rfl
/-- code that puts, and tells. -/
theorem Md9.puts (hG : D.Good) (hP : D.P.n = 20) (h : Md9 w0 D bx ba bn m s0 i tv W) (hi4 : i < 4) (hm : ∀ k, m k ≤ 5) {B : Nat} (hr : IRow W B v (upB (5 * i) (m i))) : ∃ A cp, v = .slice A (m i) cp ∧ m i ≤ cp ∧ ∀ W2, Turns [] W W2 → (DM D).Makes 3000 (startP (upB (5 * i) (m i))) 30 #[bxP D.P #[ptr ba, ptr bn], .slice A (m i) cp, .func (.func 35) #[] #[ptr D.dv, ptr D.eb]] W2 := by
  have hmi := hm i
  have hl := upB_length (5 * i) (m i)
  obtain ⟨A, cp, e, hle, hil⟩ := h.me.il hr (by omega)
  rw [hl] at e hle
  refine ⟨A, cp, e, hle, fun W2 t2 => ?_⟩
  obtain ⟨a1, a2⟩ := h.me.keep hG t2 (by simp)
  have hp := puts_d hG (ba := ba) (bn := bn) 3000 (upB (5 * i) (m i)) (fun x hx => by have := upB_mem.1 hx; rw [hP]; omega) A cp W2 3000 _ (by rw [hl]; exact hle) a1.si (hil.mv a2) a1.ctx.xd a1.ctx.xa a1.ctx.xn
  rw [hl] at hp
  exact hp
theorem Md9.next (hG : D.Good) (h : Md9 w0 D bx ba bn m s0 i tv W) (t : Turns [] W W2) (hc : (DM D).Code 3000 (startP (upB (5 * i) (m i))) cv W2) (hts : Td9 D m (i + 1) ts tv W) (hv4 : VRow W4 D.B 35 tv' ((List.range (i + 1)).map (fun k => ptr (ts k)) ++ [ptr W2.heap.size])) (t4 : Turns tv.ownBlock.toList (W2.alloc (.cells #[cv, .int .i64 0] 89)) W4) : Md9 w0 D bx ba bn m s0 (i + 1) tv' W4 := by
  have hM := dm_ok D hG
  have k3 : Turns [] W2 (W2.alloc (.cells #[cv, .int .i64 0] 89)) := (Turns.refl _ _).alloc _
  obtain ⟨me2, mv2⟩ := h.me.keep hG t (by simp)
  obtain ⟨me3, mv3⟩ := me2.keep hG k3 (by simp)
  have tk := Gm.Task.made hM (hM.okw _ _ _ me2.si) hc
  have ts3 := (hts.turns t mv2).turns k3 mv3
  have hlt : ∀ k, k < i + 1 → ts k < W2.heap.size := (hts.turns t mv2).lt
  have h0 : W2.heap.size < (W2.alloc (.cells #[cv, .int .i64 0] 89)).heap.size := by simp
  generalize (W2.alloc (.cells #[cv, .int .i64 0] 89)) = W3 at *
  have hK : ∀ b, b ∈ tv.ownBlock.toList → D.B ≤ b ∧ ∃ cs, Lies W3 b 35 cs := fun b hb => by
    obtain ⟨h1, cur, h2⟩ := ts3.tv.lies (g := b) (by simpa using hb)
    exact ⟨h1, _, h2⟩
  obtain ⟨me4, mv4⟩ := me3.keep hG t4 hK
  have ne : ∀ {b : Nat} {cs : Array Value}, Lies W3 b 89 cs → b ∉ tv.ownBlock.toList := fun hl hm => by
    obtain ⟨_, cs, h2⟩ := hK _ hm
    exact hl.unlike h2 (by decide) rfl
  refine ⟨⟨updF ts (i + 1) W2.heap.size, ?_, fun k hk0 hk => ?_, fun a b ha hb e => ?_, fun a ha => ?_, ?_⟩, me4⟩
  · rw [updF_ne _ _ (by omega)]
    exact hts.t0
  · by_cases e : k = i + 1
    · subst e
      rw [updF_same]
      obtain ⟨u, hl, _⟩ := tk.at_
      exact tk.keep (t4.block _ tk.lt (ne hl)) mv4
    · rw [updF_ne _ _ e]
      have tk' := ts3.tk k hk0 (by omega)
      obtain ⟨u, hl, _⟩ := tk'.at_
      exact tk'.keep (t4.block _ tk'.lt (ne hl)) mv4
  · by_cases e1 : a = i + 1 <;> by_cases e2 : b = i + 1
    · omega
    · rw [e1, updF_same, updF_ne _ _ e2] at e
      have := hlt b (by omega)
      omega
    · rw [e2, updF_same, updF_ne _ _ e1] at e
      have := hlt a (by omega)
      omega
    · rw [updF_ne _ _ e1, updF_ne _ _ e2] at e
      exact hts.inj a b (by omega) (by omega) e
  · have h4 := t4.size
    by_cases e : a = i + 1
    · subst e
      rw [updF_same]
      omega
    · rw [updF_ne _ _ e]
      have := hlt a (by omega)
      omega
  · rw [List.range_succ, List.map_append]
    have e : (List.range (i + 1)).map (fun k => ptr (updF ts (i + 1) W2.heap.size k)) = (List.range (i + 1)).map (fun k => ptr (ts k)) := List.map_congr_left fun k hk => by
      have := List.mem_range.1 hk
      rw [updF_ne _ _ (by omega)]
    rw [e, List.map_singleton, updF_same]
    exact hv4
theorem isPu_startP (l : List Int) : isPu (startP l) := by cases l <;> trivial
/-- all are made. -/
theorem Md9.done (hG : D.Good) (h : Md9 w0 D bx ba bn m s0 4 tv W) (hm : ∀ k, m k ≤ 5) {kk : Int} (hs0 : (⟨List.replicate (2 + 2 * 20) 0, kk, [], []⟩ : BSt) = s0) : ∃ ts, Dv9 w0 D (allF m 4) ts tv 3000 0 W := by
  obtain ⟨ts, hts⟩ := h.at_
  have hgb := gbF (D := 1) (m := m) hm kk 4 (Nat.le_refl _)
  refine ⟨ts, ⟨⟨s0, [], false, .nilFunc, #[]⟩, qsF 1 m, fun _ => 0, 0, hsF m, [], [], h.me.si, ⟨by rw [← hs0]; exact hgb, qsF_few (by omega), ⟨fun _ t ht => (by cases ht), fun _ t ht => (by cases ht)⟩, fun _ => trivial, fun j h0 h5 => ?_, trivial, rfl, fun x hx => ?_⟩, h.me.lz, fun j h0 h5 => hts.tk j h0 (by omega), Nat.le_refl _, fun i _ => Nat.le_refl _⟩, hts.t0, hts.inj, hts.tv.down hG.lo, h.me.be, h.me.ctx.xd⟩
  · obtain ⟨k, rfl⟩ : ∃ k, j = k + 1 := ⟨j - 1, by omega⟩
    exact isPu_startP _
  · have e : getA s0.l (x + (2 + 20)) = 0 := by
      rw [← hs0]
      unfold getA
      split
      · rw [List.getD_eq_getElem?_getD, List.getElem?_replicate]
        split <;> rfl
      · rfl
    rw [e]
    omega

/-- the drain's task is laid, the variable 'drain', and the slice of tasks. -/
def D9 (P : BP) (eb t : Nat) : DP := ⟨P, eb, t + 1, t, t + 2⟩
def W79 (w4 : World) (v0 : Value) : World := ((w4.alloc (.cells #[v0, .int .i64 0] 89)).alloc (.cells #[ptr w4.heap.size] 35)).alloc (.cells #[ptr w4.heap.size] 35)
theorem Md9.first {P : BP} (hG : P.Good) (hx : P.ex = []) {eb bx ba bn : Nat} {m : Nat → Nat} {s0 : BSt} {w0 w3 w4 : World} {v0 : Value} (hi : BI P 3000 s0 w3) (hX : BCtx P bx ba bn w3) (hR : ∀ b, ¬ Rw P.ws w3 b) (hE : Lies w3 eb 31 #[.slice none 0 0]) (he : P.B ≤ eb) (be : Below P.B w0 w3) (t4 : Turns [] w3 w4) (hc : (BM (P.wide [eb])).Code 3000 (startD 1) v0 w4) :
    (D9 P eb w4.heap.size).Good ∧ Md9 w0 (D9 P eb w4.heap.size) bx ba bn m s0 0 (.slice (some ⟨w4.heap.size + 2, 0, none⟩) 1 1) (W79 w4 v0) := by
  have hM := bm_ok P hG
  have k7 : Turns [] w4 (W79 w4 v0) := (((Turns.refl _ _).alloc _).alloc _).alloc _
  have l1 : Lies (W79 w4 v0) w4.heap.size 89 #[v0, .int .i64 0] := ((Lies.new _ _ _).alloc _).alloc _
  have l2 : Lies (W79 w4 v0) (w4.heap.size + 1) 35 #[ptr w4.heap.size] := (Lies.new_of _ _ (by simp)).alloc _
  have l3 : Lies (W79 w4 v0) (w4.heap.size + 2) 35 #[ptr w4.heap.size] := Lies.new_of _ _ (by simp)
  have z7 : (W79 w4 v0).heap.size = w4.heap.size + 3 := by simp [W79]
  generalize W79 w4 v0 = W7 at *
  have t7 := t4.trans k7
  have hB3 : P.B ≤ w3.heap.size := (hM.okw _ _ _ hi).base
  have hB4 : P.B ≤ w4.heap.size := Nat.le_trans hB3 t4.size
  have hex : ∀ b, b ∈ [eb] → b < w4.heap.size := fun b hb => by
    rw [List.mem_singleton] at hb
    rw [hb]
    exact Nat.lt_of_lt_of_le hE.lt t4.size
  have hi4 : BI (P.wide [eb]) 3000 s0 w4 := (hi.turns t4 (by simp)).wide hex
  have m47 : Mv P.B (P.L ++ [eb]) P.ws w4 W7 := ((bm_ok _ (hG.wide [eb])).okw _ _ _ hi4).mv (bm_ok _ (hG.wide [eb])) k7
  have hi7 : BI P 3000 s0 W7 := hi.turns t7 (by simp)
  have hX7 := hX.turns hG hi t7 (by simp) (by simp)
  have hE7 : Lies W7 eb 31 #[.slice none 0 0] := hE.turn t7 (by simp)
  have hR7 : ∀ b, ¬ Rw P.ws W7 b := fun b q => hR b (BI.rows_turns hG hi t7 (by simp) q)
  obtain ⟨vo, uo, hlo, _⟩ := hi7.ow
  have hGD : (D9 P eb w4.heap.size).Good := ⟨hG, hx, ⟨fun e => hE7.unlike hi7.ar.head (by decide) e, fun e => hE7.unlike hi7.ar.body (by decide) e, fun e => hE7.unlike hlo (by decide) e⟩, by show P.B ≤ w4.heap.size + 2; omega, by show w4.heap.size < w4.heap.size + 2; omega, hB4, he⟩
  have hRD : ∀ b, ¬ Rw (D9 P eb w4.heap.size).ws W7 b := fun b ⟨a, ha, o, n, c, e⟩ => by
    rcases DP.ws_mem.1 ha with h1 | rfl
    · exact hR7 b ⟨a, h1, o, n, c, e⟩
    · have e1 : W7.cell? ⟨eb, 0, none⟩ = some (.slice (some ⟨b, o, none⟩) n c) := e
      rw [show W7.cell? ⟨eb, 0, none⟩ = some (.slice none 0 0) from hE7.cell 0] at e1
      cases e1
  have out : ∀ {b : Nat} {ty : TypeId} {cs : Array Value}, Lies W7 b ty cs → b ∉ P.L → ty ≠ 31 → b ∉ (D9 P eb w4.heap.size).L := fun hl h1 h2 hm => by
    rcases DP.L_mem.1 hm with h3 | h3
    · exact h1 h3
    · exact hl.unlike hE7 h2 h3
  have outX : ∀ {b : Nat} {ty : TypeId} {cs : Array Value}, Lies W7 b ty cs → ty ≠ 89 → b ∉ [w4.heap.size] := fun hl h2 hm => by
    rw [List.mem_singleton] at hm
    exact hl.unlike l1 h2 hm
  have h2 := hi7.apart_ty l2 (by decide) (by decide) (by decide) (by decide)
  refine ⟨hGD, ⟨⟨fun _ => w4.heap.size, rfl, fun k h0 hk => by omega, fun a b ha hb _ => by omega, fun a _ => by omega, ?_⟩, ⟨⟨v0, w4, l1, hc, hex eb (by simp), m47, fun _ => by show w4.heap.size ≤ w4.heap.size + 2; omega⟩, ⟨hi7, ⟨⟨_, hE7, World.ownsRow_nil _ _ _ _, fun g hg => (by cases hg)⟩, ⟨v0, 0, l1, by simp⟩, fun e => (by cases e), fun b q => absurd q (hR7 b), fun i hi => (by cases hi), (by show 0 + 3000 ≤ 5000; omega), by show w4.heap.size + 2 ≤ _; omega⟩⟩, ⟨⟨hX7.box.l, out hX7.box.l hX7.box.out (by decide), hRD _, hX7.box.ty, outX hX7.box.l (by decide)⟩, ⟨hX7.xa.l, out hX7.xa.l hX7.xa.out (by decide), hRD _, hX7.xa.ty, outX hX7.xa.l (by decide)⟩, ⟨hX7.xn.l, out hX7.xn.l hX7.xn.out (by decide), hRD _, hX7.xn.ty, outX hX7.xn.l (by decide)⟩, ⟨l2, by show w4.heap.size + 1 < w4.heap.size + 2; omega, out l2 h2.1 (by decide), hRD _, by show w4.heap.size + 1 ≠ w4.heap.size; omega⟩⟩, be.trans (t7.below (by simp) hB3), hRD⟩⟩⟩
  exact ⟨rfl, .inr ⟨w4.heap.size + 2, 1, #[ptr w4.heap.size], rfl, Nat.le_refl _, l3, Nat.le_refl _, by simp only [maxLen]; simp, rfl, rfl⟩⟩

/-- the drain has ended. -/
structure Ed0 (w0 : World) (D : DP) (en got : List Int) (W : World) : Prop where
  ev : ∃ v, Lies W D.eb 31 #[v] ∧ IRow W D.B v en
  ow : ∃ v u, Lies W D.P.ob 72 #[v, u] ∧ IRow W D.P.B v got
  sub : ∀ t, t ∈ en → t ∈ got
  be : Below D.P.B w0 W
  el : en.length ≤ 5000 ∧ got.length ≤ 5000
theorem keepsKn (en : List Int) (all : List Int) : Keeps 20 5 all 0 (fun q s hs bx _ => Kn en (q 0) (hs 0) bx s.got ∧ isDr (q 0) ∧ (q 0).n = 0) := by
  intro T q s hs bx fs c' bx' fs' h1 h2 h3 h4 h5
  have hw' := h4.wk 0 (by omega)
  rw [updF_same, updF_same] at hw'
  have hk := Kn.drains h1.cb (h1.wk 0 (by omega)) hw' rfl h2.2.1 h2.2.2 h3 h5 h2.1
  have hd := isDr_step 20 (q 0) s h2.2.1 h2.2.2
  rw [updF_same, updF_same]
  exact ⟨hk, hd.1, hd.2⟩
theorem Dv9.ends (hG : D.Good) (hP : D.P.n = 20) {all : List Int} (ha : all.length ≤ 20) {r mm : Nat} (h : Dv9 w0 D all ts tv r mm W) (hr : 300 ≤ r) (hr2 : r ≤ 5000) (hm : mm ≤ 1000) :
    Calls Try.prog 18 #[ptr D.td, .int .i64 300] W fun e w' => e = .returned (.bool true) ∧ ∃ en got, Ed0 w0 D en got w' := by
  obtain ⟨s, q, d, T, hs, b, fs, h1, h2, h3, h4, h5, h6⟩ := h.at_
  obtain ⟨v, w1, a1, a2, a3, a4, a5⟩ := h3.at_
  have hb : BI D.P r s.b W := h1.1
  obtain ⟨ev, hev, hown, hn⟩ := h1.2.ev
  have hap := hb.apart_ty a1 (by decide) (by decide) (by decide) (by decide)
  have hape := hb.apart_ty hev (by decide) (by decide) (by decide) (by decide)
  have hGx := hG.P.wide [D.eb]
  have hM := bm_ok _ hGx
  have tk : (BM (D.P.wide [D.eb])).Task r (q 0) (d 0) D.td W := ⟨⟨v, a1, a2.mv a4⟩, hap.1, hG.tl, hap.2⟩
  have hbx : BI (D.P.wide [D.eb]) r s.b W := hb.wide fun b hm => by
    rw [List.mem_singleton] at hm
    rw [hm]
    exact hev.lt
  have hPx : (D.P.wide [D.eb]).n = 20 := hP
  have hql : (q 0).l = [] := by
    have hw := h2.gb.wk 0 (by omega)
    have hd := h2.dr
    rcases hq : q 0 with ⟨m, ql, qn⟩
    rw [hq] at hw hd
    cases m with
    | done => exact hw.2
    | dR => exact hw.2
    | dT o => exact hw.2.1
    | eN i => exact hw.2.1
    | eI x => exact hw.2
    | _ => exact hd.elim
  have hrk := h2.gb.rk_le (j := 0) (by omega) ha
  rw [hql, h2.n0] at hrk
  have hrk2 : rk (q 0) s.b.l b.length (hs 0).length < 200 := by simp at hrk; omega
  obtain ⟨q', hs', bx', fs', g1, g2, g3, g4, g5, g6, g7⟩ := Gb.ends (P := D.P.wide [D.eb]) hPx (j := 0) (by omega) (by omega) (keepsKn s.en all) h2.gb ⟨h2.kn, h2.dr, h2.n0⟩ (d 0) 200 (by omega) hrk2
  have hd0 := h6 0 (by omega)
  refine (finish_e hM 300 (m0 := 200) (by omega) (by omega) (by omega) tk hbx g5 (fun j hj _ => h2.gb.w_alone hPx (by omega) (by omega) (d 0) j (by omega)) (by omega)).mono ?_
  rintro e w' ⟨rfl, c1, c2, c3, c4⟩
  have f : Fr (D.td :: D.P.L) D.P.ws W w' := c3
  have hlE : D.eb ∉ D.td :: D.P.L := fun hm => by
    rcases List.mem_cons.1 hm with e | hm
    · rw [e] at hev
      exact hev.unlike a1 (by decide) rfl
    · exact hape.1 hm
  refine ⟨rfl, s.en, ((BM (D.P.wide [D.eb])).runN (q 0) s.b (d 0) 200).2.1.got, ⟨ev, f.lies hev hlE hape.2, ⟨own_keep hown fun g hg => ?_, fun x hx => by have := h1.2.he x hx; unfold Ix at this; exact WalkArith.wf_i64 (by omega)⟩⟩, ?_, fun t ht => ?_, ?_, ?_⟩
  · obtain ⟨_, cur, hlg⟩ := own_block hown hg
    refine f.block g hlg.lt (fun hm => ?_) (hn g hg)
    rcases List.mem_cons.1 hm with e | hm
    · rw [e] at hlg
      exact hlg.unlike a1 (by decide) rfl
    · exact hb.apart_int hlg hm
  · have hbI : BI (D.P.wide [D.eb]) (r - (200 + 1)) ((BM (D.P.wide [D.eb])).runN (q 0) s.b (d 0) 200).2.1 w' := c2
    obtain ⟨vo, uo, hlo, hvo, _⟩ := hbI.ow
    have hig := hbI.hg
    exact ⟨vo, uo, hlo, hvo, fun x hx => by have := hig x hx; unfold Ix at this; exact WalkArith.wf_i64 (by omega)⟩
  · have hk := g2.1
    have hnw : ¬ waitD (q' 0) := fun hx => by
      unfold waitD at hx
      rw [g7] at hx
      exact hx
    rcases hk.t hnw t ht with h7 | h7
    · rw [g6] at h7; cases h7
    · exact h7
  · refine h.be.trans (BI.below hG.P hb (fun y hy => ?_) f)
    rcases List.mem_cons.1 hy with e | hy
    · right; rw [e]; exact hG.tl
    · exact .inl hy
  · have hbI : BI (D.P.wide [D.eb]) (r - (200 + 1)) ((BM (D.P.wide [D.eb])).runN (q 0) s.b (d 0) 200).2.1 w' := c2
    have h8 := hbI.size
    have h9 := h1.2.size
    exact ⟨by omega, by omega⟩
end

end Go.Proofs.Ythkklcmmbpffiaa

/- The inbox: one task alone, act by act: a drain, and a ticket that dies. -/
namespace Go.Proofs.Ythkklcmmbpffiaa
open Go.RowKit Go.ChangeShapes Go.WideShapes
set_option maxRecDepth 100000

section
variable {w0 : World} {P : BP} {bx ba bn db t nx N T ob : Nat} {mv fv v1 v2 cv : Value} {W W1 W2 W3 : World} {s : BSt} {all b f : List Int} {q : Nat → BPr} {hs : Nat → List Int} {d : Int → Bool}
/-- the machine of a new owner. -/
def BP.at (P : BP) (ob : Nat) : BP := ⟨P.p, P.c, P.B, 20, ob, []⟩
/-- an owner of old, behind the steps of a task of another. -/
theorem BI.swap {P : BP} {r r' : Nat} {s s1 : BSt} {L : List Nat} {ws : List Addr} {W W' : World} (h : BI P r s W) (f : Fr L ws W W') (har : Arena W' P.p P.c s1.l s1.k) (hroom : s1.k + r' ≤ 4611686018427387904) (hok : BOk P.n s1.l) (hob : P.ob ∉ L) (hrw : ∀ b, ¬ Rw ws W b) (hint : ∀ b cur, Lies W b 3 cur → b ∉ L) (hr : r' ≤ r) (hx : P.ex = []) : BI P r' (s1.own s.got s.ends) W' := by
  have own : ∀ {v : Value} {n : Nat} {xs : List Value}, W.ownsRow P.B 3 1 v n xs → W'.ownsRow P.B 3 1 v n xs := fun hr => own_keep hr fun g hg => by
    obtain ⟨_, cur, hl⟩ := own_block hr hg
    exact f.block g hl.lt (hint g cur hl) (hrw g)
  obtain ⟨v, u, hl, hv, hu, hne⟩ := h.ow
  have hz := h.size
  exact ⟨har, hroom, hok, ⟨v, u, f.lies hl hob (hrw _), own hv, own hu, hne⟩, h.hg, h.he, ⟨by show s.got.length + r' ≤ 5000; omega, by show s.ends.length + r' ≤ 5000; omega⟩, fun b hb => by rw [hx] at hb; cases hb⟩

/-- a new owner's machine. -/
theorem Alc.owner (hG : P.Good) (hP : P.n = 20) (h : Alc P db t nx mv fv W s N T all q hs b f d) (hctx : BCtx P bx ba bn W) (hnx : nx ≤ 20) (k : Turns [] W W1) (hob : W.heap.size ≤ ob) (lo : Lies W1 ob 72 #[.slice none 0 0, .slice none 0 0]) :
    (P.at ob).Good ∧ BI (P.at ob) (20 * (60 - t) + 160 * (20 - nx) + 4 * b.length) s.bare W1 ∧ BCtx (P.at ob) bx ba bn W1 ∧ ∀ b, ¬ Rw (P.at ob).ws W1 b := by
  have hi := h.si.turns k (by simp)
  have hx := hctx.turns hG h.si k (by simp) (by simp)
  have hB := ((bm_ok P hG).okw _ _ _ h.si).base
  have hB : P.B ≤ W.heap.size := hB
  have hbl : b.length ≤ nx := Nat.le_trans (count_len b fun a => by have := h.gb.cnt a; omega) h.len
  have hn := hx.xn.l
  have hok := hi.ok
  rw [hP] at hn hok
  exact begin9 (r := 20 * (60 - t) + 160 * (20 - nx) + 4 * b.length) hi.ar hi.room hok lo hx.box.l hx.xa.l hn hG.low.1 hG.low.2.1 (by omega) (by omega) (by omega) (by simp) (by simp)
theorem Alc.code (hG : P.Good) (hP : P.n = 20) (h : Alc P db t nx mv fv W s N T all q hs b f d) (hctx : BCtx P bx ba bn W) (hnx : nx ≤ 20) (k : Turns [] W W1) (hob : W.heap.size ≤ ob) (lo : Lies W1 ob 72 #[.slice none 0 0, .slice none 0 0]) :
    (BM (P.at ob)).Makes 6000 (startD 1) 31 #[bxP P #[ptr ba, ptr bn], .int .i64 1, ptr ob] W1 := by
  obtain ⟨h1, h2, _⟩ := h.owner hG hP hctx hnx k hob lo
  exact drains_g (P.at ob) h1 (dcap := #[ptr ba, ptr bn]) 6000 1 (by omega) W1 ((bm_ok _ h1).okw _ _ _ h2)

/-- all is drained. -/
theorem Alc.drain (hG : P.Good) (hP : P.n = 20) (hx : P.ex = []) (h : Alc P db t nx mv fv W s N T all q hs b f d) (hdl : ∃ cs, Lies W db 4 cs) (hctx : BCtx P bx ba bn W) (hbe : Below P.B w0 W) (hnx : nx ≤ 20) (ht : t < 60) (k : Turns [] W W3) (hob : W.heap.size ≤ ob) (lo : Lies W3 ob 72 #[.slice none 0 0, .slice none 0 0]) (hc : (BM (P.at ob)).Code 6000 (startD 1) cv W3) :
    Calls Try.prog 18 #[ptr W3.heap.size, .int .i64 (100 : Nat)] (W3.alloc (.cells #[cv, .int .i64 0] 89)) fun e w' => e = .returned (.bool true) ∧ (∃ v, w'.cell? ⟨ob, 0, none⟩ = some v ∧ IRow w' P.B v b) ∧ MR P mv b w' ∧ Al9 w0 P bx ba bn db (t + 1) nx (.slice none 0 0) fv w' := by
  obtain ⟨hG1, hi3, hx3, hrw3⟩ := h.owner hG hP hctx hnx k hob lo
  have hM := bm_ok (P.at ob) hG1
  have hP1 : (P.at ob).n = 20 := rfl
  have hbl : b.length ≤ nx := Nat.le_trans (count_len b fun a => by have := h.gb.cnt a; omega) h.len
  have hw3 := hM.okw _ _ _ hi3
  have k4 : Turns [] W3 (W3.alloc (.cells #[cv, .int .i64 0] 89)) := (Turns.refl _ _).alloc _
  have hi4 := hi3.turns k4 (by simp)
  have ho4 := (h.si.turns k (by simp)).turns k4 (by simp)
  have hrw4 : ∀ b, ¬ Rw (P.at ob).ws (W3.alloc (.cells #[cv, .int .i64 0] 89)) b := fun b hb => hrw3 b (BI.rows_turns hG1 hi3 k4 (by simp) hb)
  obtain ⟨q', hs', bx', g1, g2, g3, g4, g5, g6⟩ := h.gb.drains (P := P.at ob) hP1 0 (by omega) d h.mks (6 + 3 * b.length) (by have := h.few; omega) (by omega)
  subst g2
  have hmore := h.gb.moreD 1
  have tk := (Gm.Task.made hM hw3 hc).to (m := 20 * (60 - t) + 160 * (20 - nx) + 4 * b.length) (by omega)
  refine (finish_e hM 100 (m0 := 6 + 3 * b.length) (by omega) (by omega) (by omega) tk hi4 g3 (fun j hj _ => ?_) (by omega)).mono ?_
  · have hwj := hmore.w_alone hP1 (by omega) (Nat.lt_succ_self N) 0 j (by have := h.few; omega)
    rw [updF_same] at hwj
    exact hwj
  · rintro e w' ⟨rfl, _, a2, a3, a4⟩
    have g1 : Gb 20 (N + 1) (T + (6 + 3 * b.length)) all q' ((BM (P.at ob)).runN (startD 1) s.bare 0 (6 + 3 * b.length)).2.1 hs' [] f := g1
    have g4 : ((BM (P.at ob)).runN (startD 1) s.bare 0 (6 + 3 * b.length)).2.1.got = b := g4
    have g6 : MarksAre 20 ((BM (P.at ob)).runN (startD 1) s.bare 0 (6 + 3 * b.length)).2.1.l d := g6
    generalize ((BM (P.at ob)).runN (startD 1) s.bare 0 (6 + 3 * b.length)).2.1 = s1 at *
    have a3 : Fr (W3.heap.size :: (P.at ob).L) (P.at ob).ws (W3.alloc (.cells #[cv, .int .i64 0] 89)) w' := a3
    have a4 : Mv P.B ((P.at ob).L ++ (P.at ob).ex) (P.at ob).ws (W3.alloc (.cells #[cv, .int .i64 0] 89)) w' := a4
    have hty := hi4.types (Lies.new W3 89 #[cv, .int .i64 0])
    obtain ⟨v0, u0, hl0, _⟩ := h.si.ow
    have hoo : P.ob ≠ ob := by have := hl0.lt; omega
    have hpo : P.ob ∉ W3.heap.size :: (P.at ob).L := fun hm => by
      have hl4 := (hl0.turn k (by simp)).turn k4 (by simp)
      rcases List.mem_cons.1 hm with e | hm
      · rw [e] at hl4
        exact hl4.unlike (Lies.new W3 89 #[cv, .int .i64 0]) (by decide) rfl
      · rcases BP.L_mem.1 hm with e | e | e
        · exact hG.sep.2.1 e
        · exact hG.sep.2.2 e
        · exact hoo e
    have a2' : BI (P.at ob) (20 * (60 - t) + 160 * (20 - nx) + 4 * b.length - (6 + 3 * b.length + 1)) s1 w' := a2
    obtain ⟨v, u, hl, hv, _, _⟩ := a2'.ow
    rw [g4] at hv
    have hirow : IRow w' P.B v b := ⟨hv, fun x hx => ?_⟩
    rotate_left
    · have := h.gb.rng x (h.gb.rebase_mem (by simp [hx]))
      exact WalkArith.wf_i64 (by omega)
    obtain ⟨cs, hl9⟩ := hdl
    have hl4 := (hl9.turn k (by simp)).turn k4 (by simp)
    have dbo := off_types hl4 hty (by decide) (by decide) (by decide) (by decide)
    have hnew : ∀ a, a ∈ [] ++ (f ++ allB (N + 1) hs') → a < (nx : Int) := fun a ha => h.new a (g1.rebase_mem ha)
    have hlen : ([] ++ (f ++ allB (N + 1) hs')).length ≤ nx := Nat.le_trans (count_len _ fun a => by have := g1.cnt a; rw [List.count_append, List.count_append]; omega) h.len
    have hok : BOk P.n s1.l := by rw [hP]; exact a2'.ok
    have hsw : BI P (20 * (60 - (t + 1)) + 160 * (20 - nx) + 4 * ([] : List Int).length) (s1.own s.got s.ends) w' := BI.swap ho4 a3 a2'.ar (by have := a2'.room; simp only [List.length_nil]; omega) hok hpo hrw4 (fun b cur hlb => off_types hlb hty (by decide) (by decide) (by decide) (by decide)) (by simp only [List.length_nil]; omega) hx
    have hmm : MR P mv b w' := ((h.m.turns hG h.si k).turns hG (h.si.turns k (by simp)) k4).past hG ho4 a3 hty (.inl ⟨hrw4, hpo⟩)
    have hff : MR P fv f w' := ((h.f.turns hG h.si k).turns hG (h.si.turns k (by simp)) k4).past hG ho4 a3 hty (.inl ⟨hrw4, hpo⟩)
    have hcx := (hx3.turns hG1 hi3 k4 (by simp) (by simp)).mv a4
    have hcx4 := (hctx.turns hG h.si k (by simp) (by simp)).turns hG (h.si.turns k (by simp)) k4 (by simp) (by simp)
    have be4 : Below P.B w0 (W3.alloc (.cells #[cv, .int .i64 0] 89)) := hbe.trans ((k.trans k4).below (by simp) ((bm_ok P hG).okw _ _ _ h.si).base)
    have y1 := hsw.apart_ty hcx.box.l (by decide) (by decide) (by decide) (by decide)
    have y2 := hsw.apart_ty hcx.xa.l (by decide) (by decide) (by decide) (by decide)
    refine ⟨rfl, ⟨v, hl.cell 0, hirow⟩, hmm, ⟨⟨s1.own s.got s.ends, N + 1, T + (6 + 3 * b.length), [] ++ (f ++ allB (N + 1) hs'), q', hs', [], f, d, hsw, g1.rebase, g6, by have := h.few; omega, hnew, hlen, MR.nil _ _, hff, fun i hi => ?_⟩, ⟨cs, a3.lies hl4 dbo (hrw4 _)⟩, ⟨⟨hcx.box.l, y1.1, y1.2, by decide, by show _ ∉ P.ex; rw [hx]; simp⟩, ⟨hcx.xa.l, y2.1, y2.2, by decide, by show _ ∉ P.ex; rw [hx]; simp⟩, ⟨?_, hsw.apart_int hcx.xn.l, fun q => ?_, by decide, by show _ ∉ P.ex; rw [hx]; simp⟩⟩, be4.trans (show Below P.B _ _ from BI.below (P := P.at ob) hG1 hi4 (fun y hy => ?_) a3), hnx⟩⟩
    · exact (a3.cell (p := ⟨db, i, none⟩) hl4.lt dbo (hrw4 _)).trans (((k.trans k4).cell (p := ⟨db, i, none⟩) hl9.lt (by simp)).trans (h.dead i hi))
    · have := hcx.xn.l
      rw [hP]
      exact this
    · refine hcx4.xn.row (q.same fun x hx' => ?_)
      have hx2 := (bm_ok P hG).cells x hx'
      refine a3.cell (((bm_ok P hG).okw _ _ _ ho4).lt _ hx2) ?_ (hrw4 _)
      rcases BP.ws_mem.1 hx' with rfl | rfl <;> exact hpo
    · rcases List.mem_cons.1 hy with h1 | h1
      · right; rw [h1]; exact hw3.base
      · exact .inl h1

theorem MR.turnsK {r : Nat} {K : List Nat} {v : Value} {xs : List Int} {W W' : World} (hi : BI P r s W) (h : MR P v xs W) (k : Turns K W W') (h1 : ∀ b cur, Lies W b 3 cur → b ∉ K) (h2 : P.ob ∉ K) : MR P v xs W' := by
  obtain ⟨v0, u0, hl0, _⟩ := hi.ow
  refine h.keep k.size fun b cur hl hr => ⟨k.block b hl.lt (h1 b cur hl), fun q => hr (q.same fun x hx => ?_)⟩
  rcases BP.ws_mem.1 hx with rfl | rfl
  · exact k.cell (p := ⟨P.ob, 0, none⟩) hl0.lt h2
  · exact k.cell (p := ⟨P.ob, 1, none⟩) hl0.lt h2
/-- a ticket dies. -/
theorem Alc.dies (hG : P.Good) (hP : P.n = 20) (hxe : P.ex = []) (h : Alc P db t nx mv fv W s N T all q hs b f d) (hdl : ∃ cs, Lies W db 4 cs) (hctx : BCtx P bx ba bn W) (hbe : Below P.B w0 W) (hdb : P.B ≤ db) (hnx : nx ≤ 20) (ht : t < 60) {x : Nat} (hx20 : x < 20) (k : Turns [db] W W3) (hd : ∀ i : Nat, i < 20 → W3.cell? ⟨db, i, none⟩ = if i = x then some (.bool true) else W.cell? ⟨db, i, none⟩) (hl3 : ∃ cs, Lies W3 db 4 cs) :
    Calls Try.prog 32 #[ptr P.p, .int .i64 (22 + (x : Int)), .int .u64 1] W3 fun e w' => (∃ v, e = .returned v) ∧ Al9 w0 P bx ba bn db (t + 1) nx mv fv w' := by
  obtain ⟨cs, hl⟩ := hdl
  obtain ⟨cs3, hl3⟩ := hl3
  obtain ⟨a1, a2⟩ := h.si.apart_ty hl (by decide) (by decide) (by decide) (by decide)
  have hK : ∀ b, b ∈ [db] → b ∉ P.L ∧ ¬ Rw P.ws W b := fun b hb => by rw [List.mem_singleton] at hb; subst hb; exact ⟨a1, a2⟩
  have hi3 := h.si.turns k hK
  have hM := bm_ok P hG
  have hi3' : BI P (20 * (60 - (t + 1)) + 160 * (20 - nx) + 4 * b.length + 1) s W3 := BI.down hG hi3 (by omega)
  have hk := hi3'.ar.k0
  refine (store_any (22 + (x : Int)) 1 (by unfold N64; omega) hi3'.ar (by have := hi3'.room; omega)).mono ?_
  rintro e w' ⟨he, haft⟩
  have e20 : (22 + (x : Int)) = (x : Int) + (2 + ((20 : Nat) : Int)) := by omega
  rw [e20] at haft
  have hok := hi3.ok.dies (t := (x : Int)) (by omega) 1
  rw [hP] at hok
  obtain ⟨hj, _, _⟩ := BI.aft hG hi3' haft (by rw [hP]; exact hok) (by unfold moreA; split <;> omega)
  have hj : BI P (20 * (60 - (t + 1)) + 160 * (20 - nx) + 4 * b.length) { s with l := setA s.l ((x : Int) + (2 + ((20 : Nat) : Int))) 1, k := moreA s.l ((x : Int) + (2 + ((20 : Nat) : Int))) s.k } w' := hj
  have hg := h.gb.dies (t := (x : Int)) (by omega) (moreA s.l ((x : Int) + (2 + ((20 : Nat) : Int))) s.k)
  obtain ⟨v0, u0, hl0, _⟩ := h.si.ow
  have hobK : P.ob ∉ [db] := fun hm => by rw [List.mem_singleton] at hm; rw [hm] at hl0; exact hl0.unlike hl (by decide) rfl
  have hobA : P.ob ∉ [P.p, P.c] := by simp; exact ⟨hG.sep.2.1, hG.sep.2.2⟩
  have iK : ∀ {W : World}, (∃ cs, Lies W db 4 cs) → ∀ b cur, Lies W b 3 cur → b ∉ [db] := fun ⟨_, h1⟩ b cur h2 hm => by rw [List.mem_singleton] at hm; subst hm; exact h2.unlike h1 (by decide) rfl
  have iA : ∀ b cur, Lies W3 b 3 cur → b ∉ [P.p, P.c] := fun b cur h2 hm => by
    simp at hm
    rcases hm with rfl | rfl
    · exact h2.unlike hi3.ar.head (by decide) rfl
    · exact h2.unlike hi3.ar.body (by decide) rfl
  have mk : ∀ {v xs}, MR P v xs W → MR P v xs w' := fun hm => (hm.turnsK h.si k (iK ⟨_, hl⟩) hobK).turnsK hi3 haft.2 iA hobA
  have hty : ∀ {g : Nat} {ty : TypeId} {cs : Array Value}, Lies W3 g ty cs → ty ≠ 101 → ty ≠ 111 → g ∉ [P.p, P.c] := fun l h1 h2 hm => by
    simp at hm
    rcases hm with rfl | rfl
    · exact l.unlike hi3.ar.head h1 rfl
    · exact l.unlike hi3.ar.body h2 rfl
  have out : ∀ {g : Nat} {ty : TypeId} {cs : Array Value}, Lies W g ty cs → ty ≠ 4 → g ∉ [db] := fun l h1 hm => by
    rw [List.mem_singleton] at hm; subst hm; exact l.unlike hl h1 rfl
  have lbx := (hctx.box.l.turn k (out hctx.box.l (by decide)))
  have lba := (hctx.xa.l.turn k (out hctx.xa.l (by decide)))
  have lbn := (hctx.xn.l.turn k (out hctx.xn.l (by decide)))
  have lbx := lbx.turn haft.2 (hty lbx (by decide) (by decide))
  have lba := lba.turn haft.2 (hty lba (by decide) (by decide))
  have lbn' := lbn.turn haft.2 (hty lbn (by decide) (by decide))
  have y1 := hj.apart_ty lbx (by decide) (by decide) (by decide) (by decide)
  have y2 := hj.apart_ty lba (by decide) (by decide) (by decide) (by decide)
  have hlow := hG.low
  have bA : Below P.B W3 w' := haft.2.below (fun b hb => (by
    simp at hb
    rcases hb with rfl | rfl
    · exact hlow.1
    · exact hlow.2.1)) (show P.B ≤ W3.heap.size from (hM.okw _ _ _ hi3).base)
  have bK : Below P.B W W3 := k.below (fun b hb => (by
    rw [List.mem_singleton] at hb
    subst hb
    exact hdb)) (show P.B ≤ W.heap.size from (hM.okw _ _ _ h.si).base)
  have hbw : Below P.B w0 w' := hbe.trans (bK.trans bA)
  refine ⟨⟨_, he⟩, ⟨⟨_, N, T, all, q, hs, b, f, fun y => if y = (x : Int) then true else d y, hj, hg.same rfl rfl, fun y hy1 hy2 => ?_, by have := h.few; omega, h.new, h.len, mk h.m, mk h.f, fun i hi => ?_⟩, ⟨_, hl3.turn haft.2 (hty hl3 (by decide) (by decide))⟩, ⟨⟨lbx, y1.1, y1.2, by decide, by show _ ∉ P.ex; rw [hxe]; simp⟩, ⟨lba, y2.1, y2.2, by decide, by show _ ∉ P.ex; rw [hxe]; simp⟩, ⟨lbn', hj.apart_int lbn', fun q => ?_, by decide, by show _ ∉ P.ex; rw [hxe]; simp⟩⟩, hbw, hnx⟩⟩
  · have hlen : s.l.length = 2 + 2 * 20 := by have := h.gb.ok.len; exact this
    have hd0 := h.mks y hy1 hy2
    rw [getA_setA]
    by_cases e : y = (x : Int)
    · subst e
      rw [if_pos ⟨rfl, by unfold hasA; simp; omega⟩]
      simp
    · rw [if_neg (fun hh => e (by omega))]
      simp only [if_neg e]
      exact hd0
  · rw [haft.2.cell (p := ⟨db, i, none⟩) hl3.lt (hty hl3 (by decide) (by decide)), hd i hi]
    by_cases e : i = x
    · subst e
      simp
    · rw [if_neg e, if_neg (by omega)]
      exact h.dead i hi
  · refine hctx.xn.row (q.same fun a ha => ?_)
    rcases BP.ws_mem.1 ha with rfl | rfl
    · exact (haft.2.cell (p := ⟨P.ob, 0, none⟩) (hl0.turn k hobK).lt hobA).trans (k.cell (p := ⟨P.ob, 0, none⟩) hl0.lt hobK)
    · exact (haft.2.cell (p := ⟨P.ob, 1, none⟩) (hl0.turn k hobK).lt hobA).trans (k.cell (p := ⟨P.ob, 1, none⟩) hl0.lt hobK)
end

end Go.Proofs.Ythkklcmmbpffiaa

/- The inbox: picks one by one, and tickets that die between them. -/
namespace Go.Proofs.Ythkklcmmbpffiaa
open Go.RowKit Go.ChangeShapes Go.WideShapes
set_option maxRecDepth 100000

/-- between picks: five tasks, the tickets' ways, the law's row of all tickets. -/
structure Pk9 (w0 : World) (P : BP) (bx ba bn : Nat) (all : List Int) (ts : Nat → Nat) (av tv : Value) (r e : Nat) (k : Int) (W : World) : Prop where
  at_ : ∃ s q d T hs b fs, (BM P).All r 5 ts ⟨s, q, d, 0⟩ W ∧ s.k = k ∧ Gb 20 5 T all q s hs b fs ∧ FewD q s hs b fs ∧ T ≤ e ∧ ∀ i, i < 5 → d i ≤ e
  inj : ∀ i j, i < 5 → j < 5 → ts i = ts j → i = j
  tv : VRow W P.B 35 tv ((List.range 5).map fun k => ptr (ts k))
  ctx : BCtx P bx ba bn W
  be : Below P.B w0 W
  av : MR P av all W
section
variable {w0 : World} {P : BP} {bx ba bn r e : Nat} {k : Int} {all : List Int} {ts : Nat → Nat} {av tv : Value} {W W1 W2 : World} {S : Nat → Prop}
theorem All.types {m : Nat} {c : Cfg BSt BPr} (h : (BM P).All m 5 ts c W) : ∀ b, b ∈ tsL 5 ts ++ P.L → (∃ cs, Lies W b 89 cs) ∨ (∃ cs, Lies W b 101 cs) ∨ (∃ cs, Lies W b 111 cs) ∨ ∃ cs, Lies W b 72 cs := fun b hb => by
  have hi : BI P m c.s W := h.inv
  rcases List.mem_append.1 hb with h1 | h1
  · obtain ⟨i, hi, rfl⟩ := tsL_mem.1 h1
    exact .inl (All.lies h i hi)
  · rcases BP.L_mem.1 h1 with rfl | rfl | rfl
    · exact .inr (.inl ⟨_, hi.ar.head⟩)
    · exact .inr (.inr (.inl ⟨_, hi.ar.body⟩))
    · obtain ⟨v, u, hl, _⟩ := hi.ow
      exact .inr (.inr (.inr ⟨_, hl⟩))
theorem Pk9.turns (hG : P.Good) (h : Pk9 w0 P bx ba bn all ts av tv r e k W) (t : Turns [] W W1) : Pk9 w0 P bx ba bn all ts av tv r e k W1 := by
  obtain ⟨s, q, d, T, hs, b, fs, h1, h2, h3, h4, h5, h6⟩ := h.at_
  have hM := bm_ok P hG
  have hi : BI P r s W := h1.inv
  have m := (hM.okw _ _ _ hi).mv hM t
  exact ⟨⟨s, q, d, T, hs, b, fs, ⟨fun i hi5 => (h1.tk i hi5).keep (t.block _ (h1.tk i hi5).lt (by simp)) m, hi.turns t (by simp)⟩, h2, h3, h4, h5, h6⟩, h.inj, h.tv.turns t (by simp), h.ctx.turns hG hi t (by simp) (by simp), h.be.trans (t.below (by simp) (hM.okw _ _ _ hi).base), h.av.turns hG hi t⟩
theorem Pk9.count (h : Pk9 w0 P bx ba bn all ts av tv r e k W) : Calls Try.prog 23 #[ptr P.p] W fun e w' => e = .returned (.int .i64 k) ∧ W = w' := by
  obtain ⟨s, q, d, T, hs, b, fs, h1, rfl, _⟩ := h.at_
  have hi : BI P r s W := h1.inv
  exact count_any hi.ar
/-- a ticket dies. -/
theorem Pk9.dies (hG : P.Good) (hP : P.n = 20) (h : Pk9 w0 P bx ba bn all ts av tv (r + 1) e k W) {x : Nat} (hx : x < 20) :
    Calls Try.prog 32 #[ptr P.p, .int .i64 (22 + (x : Int)), .int .u64 1] W fun e' w' => (∃ v, e' = .returned v) ∧ ∃ k', Pk9 w0 P bx ba bn all ts av tv r e k' w' := by
  obtain ⟨s, q, d, T, hs, b, fs, h1, h2, h3, h4, h5, h6⟩ := h.at_
  have hM := bm_ok P hG
  have hi : BI P (r + 1) s W := h1.inv
  have hk := hi.ar.k0
  refine (store_any (22 + (x : Int)) 1 (by unfold N64; omega) hi.ar (by have := hi.room; omega)).mono ?_
  rintro e' w' ⟨he, haft⟩
  have e20 : (22 + (x : Int)) = (x : Int) + (2 + ((20 : Nat) : Int)) := by omega
  rw [e20] at haft
  have hok := hi.ok.dies (t := (x : Int)) (by omega) 1
  rw [hP] at hok
  obtain ⟨hj, _, _⟩ := BI.aft hG hi haft (by rw [hP]; exact hok) (by unfold moreA; split <;> omega)
  have hg := h3.dies (t := (x : Int)) (by omega) (moreA s.l ((x : Int) + (2 + ((20 : Nat) : Int))) s.k)
  obtain ⟨v0, u0, hl0, _⟩ := hi.ow
  have hobA : P.ob ∉ [P.p, P.c] := by simp; exact ⟨hG.sep.2.1, hG.sep.2.2⟩
  have hty : ∀ {g : Nat} {ty : TypeId} {cs : Array Value}, Lies W g ty cs → ty ≠ 101 → ty ≠ 111 → g ∉ [P.p, P.c] := fun l h1 h2 hm => by
    simp at hm
    rcases hm with rfl | rfl
    · exact l.unlike hi.ar.head h1 rfl
    · exact l.unlike hi.ar.body h2 rfl
  have hpc : ∀ b, b ∈ [P.p, P.c] → b ∈ P.L := fun b hb => by
    simp at hb
    rcases hb with rfl | rfl
    · exact BP.L_mem.2 (.inl rfl)
    · exact BP.L_mem.2 (.inr (.inl rfl))
  have hws : ∀ a, a ∈ P.ws → a.block < W.heap.size ∧ a.block ∉ [P.p, P.c] := fun a ha => by
    have : a.block = P.ob := by rcases BP.ws_mem.1 ha with rfl | rfl <;> rfl
    rw [this]
    exact ⟨hl0.lt, hobA⟩
  have m : Mv P.B (P.L ++ P.ex) P.ws W w' := Mv.of_turns haft.2 (fun b hb => .inl (List.mem_append.2 (.inl (hpc b hb)))) hws
  have hl := hG.low
  have bA : Below P.B W w' := haft.2.below (fun b hb => (by
    simp at hb
    rcases hb with rfl | rfl
    · exact hl.1
    · exact hl.2.1)) (show P.B ≤ W.heap.size from (hM.okw _ _ _ hi).base)
  refine ⟨⟨_, he⟩, _, ⟨⟨_, q, d, T, hs, b, fs, ⟨fun i hi5 => ?_, hj⟩, rfl, hg.same rfl rfl, h4, h5, h6⟩, h.inj, h.tv.turns haft.2 (fun g hg => ?_), h.ctx.mv m, h.be.trans bA, h.av.turnsK hi haft.2 (fun b cur hb => hty hb (by decide) (by decide)) hobA⟩⟩
  · have htk := (h1.tk i hi5).less
    obtain ⟨cs, hcs⟩ := All.lies h1 i hi5
    exact htk.keep (haft.2.block _ hcs.lt (hty hcs (by decide) (by decide))) m
  · obtain ⟨_, cur, hlg⟩ := h.tv.lies hg
    exact hty hlg (by decide) (by decide)
/-- a pick. -/
theorem Pk9.pick (hG : P.Good) (hP : P.n = 20) (h : Pk9 w0 P bx ba bn all ts av tv (r + 1) e k W) (he : e ≤ 1000) {y : Int} (hy : (Lit.int .i64 y).wf = true) :
    Calls Try.prog 24 #[tv, .slice (some ⟨W.heap.size, 0, none⟩) 1 1] (W.alloc (.cells #[.int .i64 y] 3)) fun e' w' => (∃ v, e' = .returned v) ∧ ∃ k', k' ≤ k + 1 ∧ Pk9 w0 P bx ba bn all ts av tv r (e + 1) k' w' := by
  have k0 : Turns [] W (W.alloc (.cells #[.int .i64 y] 3)) := (Turns.refl _ _).alloc _
  have h2 := h.turns hG k0
  obtain ⟨s, q, d, T, hs, b, fs, a1, a2, a3, a4, a5, a6⟩ := h2.at_
  have hM := bm_ok P hG
  have hi : BI P (r + 1) s _ := a1.inv
  have l0 : Lies (W.alloc (.cells #[.int .i64 y] 3)) W.heap.size 3 #[.int .i64 y] := Lies.new _ _ _
  obtain ⟨A, cp, e1, _, e2⟩ := h2.tv.slice
  have hl : ((List.range 5).map fun i => ptr (ts i)).length = 5 := by simp
  rw [hl] at e1 e2
  obtain ⟨g, rfl, e3, e4⟩ := e2 (by omega)
  obtain ⟨_, cur, hlg⟩ := h2.tv.lies e3
  have ha := hi.apart_ty hlg (by decide) (by decide) (by decide) (by decide)
  have hTR : (BM P).TRow (W.alloc (.cells #[.int .i64 y] 3)) (some ⟨g, 0, none⟩) 5 ts := ⟨by simp only [maxLen]; omega, h.inj, fun _ => ⟨_, rfl, hlg.lt, ha.1, ha.2, fun i hi' e => by
    obtain ⟨cs, hcs⟩ := All.lies a1 i hi'
    exact hlg.unlike hcs (by decide) e, fun i hi' => by
    rw [Addr.add_mid, Nat.zero_add]
    exact e4 i _ (by simp [hi'])⟩⟩
  have hy0 : W.heap.size ∉ tsL 5 ts ++ P.L := fun hm => by
    rcases All.types a1 _ hm with ⟨cs, k⟩ | ⟨cs, k⟩ | ⟨cs, k⟩ | ⟨cs, k⟩
    · exact l0.unlike k (by decide) rfl
    · exact l0.unlike k (by decide) rfl
    · exact l0.unlike k (by decide) rfl
    · exact l0.unlike k (by decide) rfl
  have hy1 : ¬ Rw P.ws (W.alloc (.cells #[.int .i64 y] 3)) W.heap.size := fun qq => by
    obtain ⟨s0, _, _, _, _, _, _, b1, _⟩ := h.at_
    have hi0 : BI P (r + 1) s0 W := b1.inv
    obtain ⟨_, cur2, hl2⟩ := hi0.rw (BI.rows_turns hG hi0 k0 (by simp) qq)
    exact absurd hl2.lt (Nat.lt_irrefl _)
  have hRX : (BM P).RowX (W.alloc (.cells #[.int .i64 y] 3)) 5 ts (some ⟨W.heap.size, 0, none⟩) 1 [y] := ⟨⟨rfl, by simp only [maxLen]; omega, fun x hx => (by
    obtain rfl : x = y := by simpa using hx
    exact hy), fun _ => ⟨_, rfl, l0.lt, fun i hi => by
    obtain rfl : i = 0 := by omega
    rw [Addr.add_mid, Nat.zero_add]
    exact l0.cell 0⟩⟩, fun _ a ea => by
    injection ea with ea
    subst ea
    exact ⟨hy0, hy1⟩⟩
  have hgp := Gb.picks (P := P) hP (by omega) (fun j _ => fewD_keeps 20 5 all j) (c := ⟨s, q, d, 0⟩) a3 a4 [y] 1 (by simp) (by omega)
  rw [e1]
  refine (run_g (M := BM P) (f := r + 1) hM _ _ 5 cp 1 1 ts [y] ⟨s, q, d, 0⟩ _ hTR hRX a1 (by omega) rfl (fun m hm i hi5 _ _ => ?_) (fun i hi5 => by have := a6 i hi5; show d i + 1 < _; omega)).mono ?_
  · obtain rfl : m = 0 := by omega
    exact a3.w (by omega) hi5
  · rintro e' w' ⟨rfl, hra⟩
    obtain ⟨hs', b', fs', g1, g2⟩ := hgp
    have hall := hra.all
    have hkk : ((BM P).picks 5 ⟨s, q, d, 0⟩ [y] 1).s.k ≤ s.k + 1 := by
      show ((BM P).pick 5 ⟨s, q, d, 0⟩ y).s.k ≤ s.k + 1
      unfold Gm.pick
      split
      · exact bStep_k _ _ _
      · show s.k ≤ s.k + 1
        omega
    have hdd := fun i => picks_d (M := BM P) (N := 5) ⟨s, q, d, 0⟩ [y] i 1 (by simp)
    refine ⟨⟨_, rfl⟩, _, ?_, ⟨⟨_, _, _, T + 1, hs', b', fs', ⟨hall.tk, hall.inv⟩, rfl, g1, g2, by omega, fun i hi5 => ?_⟩, h.inj, ?_, h2.ctx.mv hra.mo, h2.be.trans (All.low hG a1 hra.fr), h2.av.past hG hi hra.fr (All.types a1) (.inr rfl)⟩⟩
    · rw [← a2]; exact hkk
    · have h7 := hdd i
      have h8 := a6 i hi5
      show ((BM P).picks 5 ⟨s, q, d, 0⟩ [y] 1).d i ≤ e + 1
      have h7 : ((BM P).picks 5 ⟨s, q, d, 0⟩ [y] 1).d i ≤ d i + 1 := h7
      omega
    · have h9 := h2.tv.frTasks hi (All.lies a1) hra.fr (by decide) (by decide) (by decide) (by decide) (by decide)
      rw [← e1]
      exact h9
/-- all picks are through: what the finishing loop has, and the law's row. -/
structure Fm9 (w0 : World) (P : BP) (bx ba bn : Nat) (all : List Int) (ts : Nat → Nat) (av tv : Value) (k : Nat) (W : World) : Prop where
  fn : Fn9 w0 P bx ba bn all (fun _ _ _ _ _ => True) ts tv (fun i => i < k) k W
  av : MR P av all W
theorem Pk9.fin (hG : P.Good) (h : Pk9 w0 P bx ba bn all ts av tv r e k W) (hr : 2600 ≤ r) (he : e ≤ 1000) : Fm9 w0 P bx ba bn all ts av tv 0 W := by
  obtain ⟨s, q, d, T, hs, b, fs, h1, h2, h3, h4, h5, h6⟩ := h.at_
  exact ⟨⟨⟨_, T, hs, b, fs, h1.down (bm_ok P hG) (by omega), h3, ⟨trivial, h4⟩, by omega, fun i hi hs => absurd hs (Nat.not_lt_zero _), fun i hi => by have := h6 i hi; show d i ≤ _; omega⟩, h.inj, h.tv, h.ctx, h.be⟩, h.av⟩
theorem Fm9.next (hG : P.Good) (hP : P.n = 20) (ha : all.length ≤ 20) {k : Nat} (h : Fm9 w0 P bx ba bn all ts av tv k W) (hk : k < 5) :
    Calls Try.prog 18 #[ptr (ts k), .int .i64 3000] W fun e w' => e = .returned (.bool true) ∧ Fm9 w0 P bx ba bn all ts av tv (k + 1) w' := by
  obtain ⟨c, T, hs, b, fs, hall, hgb, hi, hT, hS0, hd⟩ := h.fn.at_
  have hM := bm_ok P hG
  have hrk := hgb.rk_few hk ha (Nat.le_refl _) (hi.2 k)
  have hKK := keeps_and (keeps_true 20 5 all k) (fewD_keeps 20 5 all k)
  obtain ⟨q', hs', bx', fs', g1, g2, g3, g4, g5, _, g7⟩ := Gb.ends (P := P) hP hk (by omega) hKK hgb hi (c.d k) 500 (by omega) hrk
  have hdj := hd k hk
  have eq : updF c.q k ((BM P).runN (c.q k) c.s (c.d k) 500).1 = q' := funext fun i => by
    by_cases e : i = k
    · subst e; rw [updF_same, g3]
    · rw [updF_ne _ _ e, (g4 i e).1]
  have hBI : BI P (2600 - 501 * k) c.s W := hall.inv
  refine (hall.fin hM h.fn.inj hk 3000 (m0 := 500) (by omega) (by omega) (by omega) g5 (fun i hi' _ => hgb.w_alone hP (by omega) hk (c.d k) i (by omega)) (by omega)).mono ?_
  rintro e w' ⟨rfl, a1, a2, a3⟩
  have hdd := runN_dle (M := BM P) (q := c.q k) (s := c.s) (d := c.d k) 500
  rw [eq] at a1
  refine ⟨rfl, ⟨⟨_, T + 500, hs', bx', fs', a1.down hM (by omega), g1, g2, by omega, fun i hi5 hSi => ?_, fun i hi5 => ?_⟩, h.fn.inj, h.fn.tv.frTasks hall.inv (All.lies hall) a2 (by decide) (by decide) (by decide) (by decide) (by decide), h.fn.ctx.mv a3, h.fn.be.trans (All.low hG hall a2)⟩, h.av.past hG hBI a2 (All.types hall) (.inr rfl)⟩
  · show (q' i).m = .done
    by_cases e : i = k
    · subst e; exact g7
    · rw [(g4 i e).1]; exact hS0 i hi5 (show i < k by have : i < k + 1 := hSi; omega)
  · show updF c.d k _ i ≤ _
    have := hd i hi5
    by_cases e : i = k
    · subst e; rw [updF_same]; omega
    · rw [updF_ne _ _ e]; omega
/-- all have ended: what is where. -/
structure Ed9 (w0 : World) (P : BP) (bx ba bn : Nat) (all : List Int) (av : Value) (s : BSt) (b f : List Int) (W : World) : Prop where
  si : BI P 0 s W
  eb : chL s.l (fun i => i + 2) s.l.length (hIx (getA s.l 0)) = b
  ef : chL s.l (fun i => i + 2) s.l.length (hIx (getA s.l 1)) = f
  dead : ∀ x, x ∈ f → 0 ≤ x ∧ x < 20 ∧ getA s.l (x + 22) = 1
  cnt : ∀ a, s.got.count a + b.count a + f.count a = all.count a
  one : ∀ a, all.count a ≤ 1
  ctx : BCtx P bx ba bn W
  be : Below P.B w0 W
  av : MR P av all W
theorem Fm9.ends (hG : P.Good) (ha : all.length ≤ 20) (h : Fm9 w0 P bx ba bn all ts av tv 5 W) : ∃ s b f, Ed9 w0 P bx ba bn all av s b f W := by
  obtain ⟨c, T, hs, b, fs, hall, hgb, hi, hT, hS0, hd⟩ := h.fn.at_
  have hBI : BI P (2600 - 501 * 5) c.s W := hall.inv
  obtain ⟨t1, t2⟩ := hgb.told (by omega) ha
  have hz : ∀ j, j < 5 → hs j = [] := fun j hj => by
    have hw := hgb.wk j hj
    have hm := hS0 j hj hj
    unfold WkB at hw
    rw [hm] at hw
    exact hw.1
  have hB : allB 5 hs = [] := by
    unfold allB
    exact List.flatMap_eq_nil_iff.2 fun j hj => hz j (List.mem_range.1 hj)
  refine ⟨c.s, b, fs, BI.down hG hBI (Nat.zero_le _), t1, t2, fun x hx => ?_, fun a => ?_, hgb.one, h.fn.ctx, h.fn.be, h.av⟩
  · have h1 := hgb.mem_fs hx
    have h2 := hgb.dead x hx
    refine ⟨h1.1, by omega, ?_⟩
    rw [show x + 22 = x + (2 + ((20 : Nat) : Int)) by omega]
    exact h2
  · have := hgb.cnt a
    rw [hB] at this
    simp at this
    omega
theorem Ed9.turns (hG : P.Good) {s : BSt} {b f : List Int} (h : Ed9 w0 P bx ba bn all av s b f W) (t : Turns [] W W1) : Ed9 w0 P bx ba bn all av s b f W1 :=
  ⟨h.si.turns t (by simp), h.eb, h.ef, h.dead, h.cnt, h.one, h.ctx.turns hG h.si t (by simp) (by simp), h.be.trans (t.below (by simp) ((bm_ok P hG).okw _ _ _ h.si).base), h.av.turns hG h.si t⟩
end

end Go.Proofs.Ythkklcmmbpffiaa

/- The inbox: a row is appended to a row, in a region that draws its order; what all tickets come to. -/
namespace Go.Proofs.Ythkklcmmbpffiaa
open Go.RowKit Go.ChangeShapes Go.WideShapes
set_option maxRecDepth 100000

/-- a row is appended to a row. -/
theorem step_more {W : World} {B : Nat} {xs ys : List Int} {v u : Value} {ops : Array Oper} {o : Oper} {a : Act} {Q : Exit → Act → World → Prop} {K : Act → World → Prop} {E : Prop} (hgd : Region.wanted o (yielded ops a.tmps) = true) (s x : Operand) (ho : o.op = .call { callee := .builtin .append, args := #[s, x], argTypes := #[31, 31] })
    (hs : a.eval s = v) (hx : a.eval x = u) (hv : IRow W B v xs) (hu : ∃ A c, u = .slice A ys.length c ∧ Row W .i64 A ys.length ys) (hl : xs.length + ys.length ≤ 1000) (hB : B ≤ W.heap.size)
    (hK : ∀ v' w', IRow w' B v' (xs ++ ys) → Turns v.ownBlock.toList W w' → (∀ b, v'.ownBlock = some b → v.ownBlock = some b ∨ W.heap.size ≤ b) → K (a.put o.dst v') w') : if Region.wanted o (yielded ops a.tmps) = true then Oper.wp Try.prog o a W K Q else E := by
  rw [if_pos hgd]
  obtain ⟨i0, hi0, hz0, hz1, hz2⟩ := info_parts int_info4
  obtain ⟨A, c, hue, hur⟩ := hu
  by_cases hn : ys.length = 0
  · obtain rfl := List.length_eq_zero_iff.1 hn
    have hk := hK v W (by rw [List.append_nil]; exact hv) (Turns.refl _ _) (fun b hb => .inl hb)
    have hx' := hx.trans hue
    simp only [List.length_nil] at hx'
    have ht : Try.prog.underlying 31 = some (.slice 3) := Try.underlying31
    rcases hv.shape with ⟨rfl, _⟩ | ⟨g, cap, rfl, hc⟩
    · have hrun : (Builtin.append_ #[31, 31] o.type #[.slice none 0 0, .slice A 0 c]).run Try.prog W = .ok (.slice none 0 0) W := by
        cases A <;> simp [Builtin.append_, run_underlying ht, sizeOf, typeInfo, hi0, Builtin.lenOf, Builtin.firstCells, loadCells, loadCellsFrom]
      unfold Oper.wp
      simp [execOp, ho, resolve, invoke, builtin, hs, hx', hrun, Result.andThen]
      exact hk
    · have hrun : (Builtin.append_ #[31, 31] o.type #[.slice (some ⟨g, 0, none⟩) xs.length cap, .slice A 0 c]).run Try.prog W = .ok (.slice (some ⟨g, 0, none⟩) xs.length cap) W := by
        cases A <;> simp [Builtin.append_, run_underlying ht, sizeOf, typeInfo, hi0, Builtin.lenOf, Builtin.firstCells, hc, storeCells, loadCells, loadCellsFrom]
      unfold Oper.wp
      simp [execOp, ho, resolve, invoke, builtin, hs, hx', hrun, Result.andThen]
      exact hk
  · obtain ⟨ad, rfl, hab, hcell⟩ := hur.at_ (by omega)
    have hyl := hur.len
    refine wp_append_lies W s x 31 ho B 3 i0 _ 1 8 Try.underlying31 hi0 hz0 hz1 hz2 rfl (by omega) v xs.length (xs.map (Value.int .i64)) hs hv.own ad ys.length c (ys.map (Value.int .i64)) (hx.trans hue) (by simp) ?_ ?_ (by omega) (by simp only [maxLen]; omega) (by omega) hB _ rfl ?_
    · intro j u hu
      rw [List.getElem?_map] at hu
      obtain ⟨y, hy, rfl⟩ := Option.map_eq_some_iff.1 hu
      have hj : j < ys.length := (List.getElem?_eq_some_iff.1 hy).1
      rw [hcell j hj]
      simp [List.getD, hy]
    · intro u hu
      obtain ⟨j, _, rfl⟩ := List.mem_map.1 hu
      rfl
    · intro g cap w' h1 h2 h3 _
      rw [← List.map_append, ← List.length_append] at h1
      have h := hK (.slice (some ⟨g, 0, none⟩) (xs ++ ys).length cap) w' ⟨h1, hv.ints.app hur.wf⟩ ⟨h2.os, h2.tape, h2.output, h2.size, fun b hb hm => h2.block b hb (fun e => hm (by rw [← e]; simp))⟩ (fun b hb => by
        simp [Value.ownBlock] at hb
        subst hb
        exact h3.imp id (fun h => by omega))
      rw [List.length_append] at h
      exact h

/-- whether a number is among the first ones. -/
def among (al : List Int) (j : Nat) (x : Int) : Bool := (al.take j).any fun n => n == x
theorem among_succ {al : List Int} {j : Nat} {x : Int} (h : j < al.length) : among al (j + 1) x = (among al j x || (al.getD j 0 == x)) := by
  unfold among
  rw [List.take_succ_eq_append_getElem h, List.any_append]
  simp [List.getD, h]
theorem among_all {al : List Int} {x : Int} : among al al.length x = decide (x ∈ al) := by
  unfold among
  rw [List.take_length]
  by_cases h : x ∈ al
  · rw [decide_eq_true h, List.any_eq_true]
    exact ⟨x, h, by simp⟩
  · rw [decide_eq_false h, List.any_eq_false]
    intro y hy e
    simp at e
    exact h (e ▸ hy)
/-- those of the first numbers that are not there. -/
def missing (al : List Int) (t : Nat) : List Int := ((List.range t).map fun (i : Nat) => (i : Int)).filter fun x => !decide (x ∈ al)
theorem missing_succ (al : List Int) (t : Nat) : missing al (t + 1) = if (t : Int) ∈ al then missing al t else missing al t ++ [(t : Int)] := by
  unfold missing
  rw [List.range_succ, List.map_append, List.filter_append]
  by_cases h : (t : Int) ∈ al <;> simp [h]
theorem missing_len (al : List Int) : ∀ t, (missing al t).length ≤ t
  | 0 => Nat.le_refl _
  | t + 1 => by
    have := missing_len al t
    rw [missing_succ]
    split
    · omega
    · simp; omega
theorem count_range (t : Nat) (a : Int) : ((List.range t).map fun (i : Nat) => (i : Int)).count a = if 0 ≤ a ∧ a < t then 1 else 0 := by
  induction t with
  | zero => simp
  | succ t ih =>
    rw [List.range_succ, List.map_append, List.count_append, ih]
    by_cases h : a = (t : Int)
    · subst h
      simp
      omega
    · have e : [(t : Int)].count a = 0 := by
        rw [List.count_eq_zero]
        simp
        exact h
      simp only [List.map_cons, List.map_nil, e]
      by_cases h1 : 0 ≤ a ∧ a < t
      · rw [if_pos h1, if_pos (by omega)]
      · rw [if_neg h1, if_neg (by omega)]
theorem all_there {al l : List Int} (hc : ∀ a, l.count a = al.count a) (h1 : ∀ a, al.count a ≤ 1) (hr : ∀ x, x ∈ al → 0 ≤ x ∧ x < 20) : (l ++ missing al 20).Perm ((List.range 20).map fun (i : Nat) => (i : Int)) := by
  refine List.perm_iff_count.2 fun a => ?_
  rw [List.count_append, hc, count_range]
  unfold missing
  by_cases h : a ∈ al
  · have h2 := hr a h
    have h3 := count_mem.1 h
    have h4 := h1 a
    have e : (((List.range 20).map fun (i : Nat) => (i : Int)).filter fun x => !decide (x ∈ al)).count a = 0 := List.count_eq_zero.2 fun hm => by
      have := (List.mem_filter.1 hm).2
      simp at this
      exact this h
    rw [e, if_pos (by omega)]
    omega
  · have e : al.count a = 0 := List.count_eq_zero.2 h
    rw [e, List.count_filter (by simp [h]), count_range]
    omega
end Go.Proofs.Ythkklcmmbpffiaa
