/- The inbox: one task alone, act by act: a drain, and a ticket that dies. -/
import Derived.Test.YtgdonejclggjlaaUD1
import Derived.Deep.DeepCutAuto
import Derived.StillTailTactics
import Derived.RegionTactic
import Derived.Deep.CutBlock
namespace Go.Proofs.Ytgdonejclggjlaa
open Go.RowKit Go.ChangeShapes Go.WideShapes
set_option maxRecDepth 100000

section
variable {w0 : World} {P : BP} {bx ba bn db t nx N T ob : Nat} {mv fv v1 v2 cv : Value} {W W1 W2 W3 : World} {s : BSt} {all b f : List Int} {q : Nat → BPr} {hs : Nat → List Int} {d : Int → Bool}
/-- the machine of a new owner. -/
def BP.at (P : BP) (ob : Nat) : BP := ⟨P.p, P.c, P.B, 20, ob, []⟩
/-- an owner of old, behind the steps of a task of another. -/
theorem BI.swap {P : BP} {r r' : Nat} {s s1 : BSt} {L : List Nat} {ws : List Addr} {W W' : World} (h : BI P r s W) (f : Fr L ws W W') (har : Arena W' P.p P.c s1.l s1.k) (hroom : s1.k + r' ≤ 4611686018427387904) (hok : BOk P.n s1.l) (hob : P.ob ∉ L) (hrw : ∀ b, ¬ Rw ws W b) (hint : ∀ b cur, Lies W b 3 cur → b ∉ L) (hr : r' ≤ r) (hx : P.ex = []) : BI P r' (s1.own s.got s.ends) W' := by
  have own : ∀ {v : Value} {n : Nat} {xs : List Value}, W.ownsRow P.B 3 1 v n xs → W'.ownsRow P.B 3 1 v n xs := fun hr => own_keep hr fun g hg => by
    obtain ⟨_, cur, hl⟩ := own_block hr hg
    exact f.block g hl.lt (hint g cur hl) (hrw g)
  obtain ⟨v, u, hl, hv, hu, hne⟩ := h.ow
  have hz := h.size
  exact ⟨har, hroom, hok, ⟨v, u, f.lies hl hob (hrw _), own hv, own hu, hne⟩, h.hg, h.he, ⟨by show s.got.length + r' ≤ 5000; omega, by show s.ends.length + r' ≤ 5000; omega⟩, fun b hb => by rw [hx] at hb; cases hb⟩

/-- a new owner's machine. -/
theorem Alc.owner (hG : P.Good) (hP : P.n = 20) (h : Alc P db t nx mv fv W s N T all q hs b f d) (hctx : BCtx P bx ba bn W) (hnx : nx ≤ 20) (k : Turns [] W W1) (hob : W.heap.size ≤ ob) (lo : Lies W1 ob 72 #[.slice none 0 0, .slice none 0 0]) :
    (P.at ob).Good ∧ BI (P.at ob) (20 * (60 - t) + 160 * (20 - nx) + 4 * b.length) s.bare W1 ∧ BCtx (P.at ob) bx ba bn W1 ∧ ∀ b, ¬ Rw (P.at ob).ws W1 b := by
  have hi := h.si.turns k (by simp)
  have hx := hctx.turns hG h.si k (by simp) (by simp)
  have hB := ((bm_ok P hG).okw _ _ _ h.si).base
  have hB : P.B ≤ W.heap.size := hB
  have hbl : b.length ≤ nx := Nat.le_trans (count_len b fun a => by have := h.gb.cnt a; omega) h.len
  have hn := hx.xn.l
  have hok := hi.ok
  rw [hP] at hn hok
  exact begin9 (r := 20 * (60 - t) + 160 * (20 - nx) + 4 * b.length) hi.ar hi.room hok lo hx.box.l hx.xa.l hn hG.low.1 hG.low.2.1 (by omega) (by omega) (by omega) (by simp) (by simp)
theorem Alc.code (hG : P.Good) (hP : P.n = 20) (h : Alc P db t nx mv fv W s N T all q hs b f d) (hctx : BCtx P bx ba bn W) (hnx : nx ≤ 20) (k : Turns [] W W1) (hob : W.heap.size ≤ ob) (lo : Lies W1 ob 72 #[.slice none 0 0, .slice none 0 0]) :
    (BM (P.at ob)).Makes 6000 (startD 1) 31 #[bxP P #[ptr ba, ptr bn], .int .i64 1, ptr ob] W1 := by
  obtain ⟨h1, h2, _⟩ := h.owner hG hP hctx hnx k hob lo
  exact drains_g (P.at ob) h1 (dcap := #[ptr ba, ptr bn]) 6000 1 (by omega) W1 ((bm_ok _ h1).okw _ _ _ h2)

/-- all is drained. -/
theorem Alc.drain (hG : P.Good) (hP : P.n = 20) (hx : P.ex = []) (h : Alc P db t nx mv fv W s N T all q hs b f d) (hdl : ∃ cs, Lies W db 4 cs) (hctx : BCtx P bx ba bn W) (hbe : Below P.B w0 W) (hnx : nx ≤ 20) (ht : t < 60) (k : Turns [] W W3) (hob : W.heap.size ≤ ob) (lo : Lies W3 ob 72 #[.slice none 0 0, .slice none 0 0]) (hc : (BM (P.at ob)).Code 6000 (startD 1) cv W3) :
    Calls Try.prog 18 #[ptr W3.heap.size, .int .i64 (100 : Nat)] (W3.alloc (.cells #[cv, .int .i64 0] 89)) fun e w' => e = .returned (.bool true) ∧ (∃ v, w'.cell? ⟨ob, 0, none⟩ = some v ∧ IRow w' P.B v b) ∧ MR P mv b w' ∧ Al9 w0 P bx ba bn db (t + 1) nx (.slice none 0 0) fv w' := by
  obtain ⟨hG1, hi3, hx3, hrw3⟩ := h.owner hG hP hctx hnx k hob lo
  have hM := bm_ok (P.at ob) hG1
  have hP1 : (P.at ob).n = 20 := rfl
  have hbl : b.length ≤ nx := Nat.le_trans (count_len b fun a => by have := h.gb.cnt a; omega) h.len
  have hw3 := hM.okw _ _ _ hi3
  have k4 : Turns [] W3 (W3.alloc (.cells #[cv, .int .i64 0] 89)) := (Turns.refl _ _).alloc _
  have hi4 := hi3.turns k4 (by simp)
  have ho4 := (h.si.turns k (by simp)).turns k4 (by simp)
  have hrw4 : ∀ b, ¬ Rw (P.at ob).ws (W3.alloc (.cells #[cv, .int .i64 0] 89)) b := fun b hb => hrw3 b (BI.rows_turns hG1 hi3 k4 (by simp) hb)
  obtain ⟨q', hs', bx', g1, g2, g3, g4, g5, g6⟩ := h.gb.drains (P := P.at ob) hP1 0 (by omega) d h.mks (6 + 3 * b.length) (by have := h.few; omega) (by omega)
  subst g2
  have hmore := h.gb.moreD 1
  have tk := (Gm.Task.made hM hw3 hc).to (m := 20 * (60 - t) + 160 * (20 - nx) + 4 * b.length) (by omega)
  refine (finish_e hM 100 (m0 := 6 + 3 * b.length) (by omega) (by omega) (by omega) tk hi4 g3 (fun j hj _ => ?_) (by omega)).mono ?_
  · have hwj := hmore.w_alone hP1 (by omega) (Nat.lt_succ_self N) 0 j (by have := h.few; omega)
    rw [updF_same] at hwj
    exact hwj
  · rintro e w' ⟨rfl, _, a2, a3, a4⟩
    have g1 : Gb 20 (N + 1) (T + (6 + 3 * b.length)) all q' ((BM (P.at ob)).runN (startD 1) s.bare 0 (6 + 3 * b.length)).2.1 hs' [] f := g1
    have g4 : ((BM (P.at ob)).runN (startD 1) s.bare 0 (6 + 3 * b.length)).2.1.got = b := g4
    have g6 : MarksAre 20 ((BM (P.at ob)).runN (startD 1) s.bare 0 (6 + 3 * b.length)).2.1.l d := g6
    generalize ((BM (P.at ob)).runN (startD 1) s.bare 0 (6 + 3 * b.length)).2.1 = s1 at *
    have a3 : Fr (W3.heap.size :: (P.at ob).L) (P.at ob).ws (W3.alloc (.cells #[cv, .int .i64 0] 89)) w' := a3
    have a4 : Mv P.B ((P.at ob).L ++ (P.at ob).ex) (P.at ob).ws (W3.alloc (.cells #[cv, .int .i64 0] 89)) w' := a4
    have hty := hi4.types (Lies.new W3 89 #[cv, .int .i64 0])
    obtain ⟨v0, u0, hl0, _⟩ := h.si.ow
    have hoo : P.ob ≠ ob := by have := hl0.lt; omega
    have hpo : P.ob ∉ W3.heap.size :: (P.at ob).L := fun hm => by
      have hl4 := (hl0.turn k (by simp)).turn k4 (by simp)
      rcases List.mem_cons.1 hm with e | hm
      · rw [e] at hl4
        exact hl4.unlike (Lies.new W3 89 #[cv, .int .i64 0]) (by decide) rfl
      · rcases BP.L_mem.1 hm with e | e | e
        · exact hG.sep.2.1 e
        · exact hG.sep.2.2 e
        · exact hoo e
    have a2' : BI (P.at ob) (20 * (60 - t) + 160 * (20 - nx) + 4 * b.length - (6 + 3 * b.length + 1)) s1 w' := a2
    obtain ⟨v, u, hl, hv, _, _⟩ := a2'.ow
    rw [g4] at hv
    have hirow : IRow w' P.B v b := ⟨hv, fun x hx => ?_⟩
    rotate_left
    · have := h.gb.rng x (h.gb.rebase_mem (by simp [hx]))
      exact WalkArith.wf_i64 (by omega)
    obtain ⟨cs, hl9⟩ := hdl
    have hl4 := (hl9.turn k (by simp)).turn k4 (by simp)
    have dbo := off_types hl4 hty (by decide) (by decide) (by decide) (by decide)
    have hnew : ∀ a, a ∈ [] ++ (f ++ allB (N + 1) hs') → a < (nx : Int) := fun a ha => h.new a (g1.rebase_mem ha)
    have hlen : ([] ++ (f ++ allB (N + 1) hs')).length ≤ nx := Nat.le_trans (count_len _ fun a => by have := g1.cnt a; rw [List.count_append, List.count_append]; omega) h.len
    have hok : BOk P.n s1.l := by rw [hP]; exact a2'.ok
    have hsw : BI P (20 * (60 - (t + 1)) + 160 * (20 - nx) + 4 * ([] : List Int).length) (s1.own s.got s.ends) w' := BI.swap ho4 a3 a2'.ar (by have := a2'.room; simp only [List.length_nil]; omega) hok hpo hrw4 (fun b cur hlb => off_types hlb hty (by decide) (by decide) (by decide) (by decide)) (by simp only [List.length_nil]; omega) hx
    have hmm : MR P mv b w' := ((h.m.turns hG h.si k).turns hG (h.si.turns k (by simp)) k4).past hG ho4 a3 hty (.inl ⟨hrw4, hpo⟩)
    have hff : MR P fv f w' := ((h.f.turns hG h.si k).turns hG (h.si.turns k (by simp)) k4).past hG ho4 a3 hty (.inl ⟨hrw4, hpo⟩)
    have hcx := (hx3.turns hG1 hi3 k4 (by simp) (by simp)).mv a4
    have hcx4 := (hctx.turns hG h.si k (by simp) (by simp)).turns hG (h.si.turns k (by simp)) k4 (by simp) (by simp)
    have be4 : Below P.B w0 (W3.alloc (.cells #[cv, .int .i64 0] 89)) := hbe.trans ((k.trans k4).below (by simp) ((bm_ok P hG).okw _ _ _ h.si).base)
    have y1 := hsw.apart_ty hcx.box.l (by decide) (by decide) (by decide) (by decide)
    have y2 := hsw.apart_ty hcx.xa.l (by decide) (by decide) (by decide) (by decide)
    refine ⟨rfl, ⟨v, hl.cell 0, hirow⟩, hmm, ⟨⟨s1.own s.got s.ends, N + 1, T + (6 + 3 * b.length), [] ++ (f ++ allB (N + 1) hs'), q', hs', [], f, d, hsw, g1.rebase, g6, by have := h.few; omega, hnew, hlen, MR.nil _ _, hff, fun i hi => ?_⟩, ⟨cs, a3.lies hl4 dbo (hrw4 _)⟩, ⟨⟨hcx.box.l, y1.1, y1.2, by decide, by show _ ∉ P.ex; rw [hx]; simp⟩, ⟨hcx.xa.l, y2.1, y2.2, by decide, by show _ ∉ P.ex; rw [hx]; simp⟩, ⟨?_, hsw.apart_int hcx.xn.l, fun q => ?_, by decide, by show _ ∉ P.ex; rw [hx]; simp⟩⟩, be4.trans (show Below P.B _ _ from BI.below (P := P.at ob) hG1 hi4 (fun y hy => ?_) a3), hnx⟩⟩
    · exact (a3.cell (p := ⟨db, i, none⟩) hl4.lt dbo (hrw4 _)).trans (((k.trans k4).cell (p := ⟨db, i, none⟩) hl9.lt (by simp)).trans (h.dead i hi))
    · have := hcx.xn.l
      rw [hP]
      exact this
    · refine hcx4.xn.row (q.same fun x hx' => ?_)
      have hx2 := (bm_ok P hG).cells x hx'
      refine a3.cell (((bm_ok P hG).okw _ _ _ ho4).lt _ hx2) ?_ (hrw4 _)
      rcases BP.ws_mem.1 hx' with rfl | rfl <;> exact hpo
    · rcases List.mem_cons.1 hy with h1 | h1
      · right; rw [h1]; exact hw3.base
      · exact .inl h1

theorem MR.turnsK {r : Nat} {K : List Nat} {v : Value} {xs : List Int} {W W' : World} (hi : BI P r s W) (h : MR P v xs W) (k : Turns K W W') (h1 : ∀ b cur, Lies W b 3 cur → b ∉ K) (h2 : P.ob ∉ K) : MR P v xs W' := by
  obtain ⟨v0, u0, hl0, _⟩ := hi.ow
  refine h.keep k.size fun b cur hl hr => ⟨k.block b hl.lt (h1 b cur hl), fun q => hr (q.same fun x hx => ?_)⟩
  rcases BP.ws_mem.1 hx with rfl | rfl
  · exact k.cell (p := ⟨P.ob, 0, none⟩) hl0.lt h2
  · exact k.cell (p := ⟨P.ob, 1, none⟩) hl0.lt h2
/-- a ticket dies. -/
theorem Alc.dies (hG : P.Good) (hP : P.n = 20) (hxe : P.ex = []) (h : Alc P db t nx mv fv W s N T all q hs b f d) (hdl : ∃ cs, Lies W db 4 cs) (hctx : BCtx P bx ba bn W) (hbe : Below P.B w0 W) (hdb : P.B ≤ db) (hnx : nx ≤ 20) (ht : t < 60) {x : Nat} (hx20 : x < 20) (k : Turns [db] W W3) (hd : ∀ i : Nat, i < 20 → W3.cell? ⟨db, i, none⟩ = if i = x then some (.bool true) else W.cell? ⟨db, i, none⟩) (hl3 : ∃ cs, Lies W3 db 4 cs) :
    Calls Try.prog 32 #[ptr P.p, .int .i64 (22 + (x : Int)), .int .u64 1] W3 fun e w' => (∃ v, e = .returned v) ∧ Al9 w0 P bx ba bn db (t + 1) nx mv fv w' := by
  obtain ⟨cs, hl⟩ := hdl
  obtain ⟨cs3, hl3⟩ := hl3
  obtain ⟨a1, a2⟩ := h.si.apart_ty hl (by decide) (by decide) (by decide) (by decide)
  have hK : ∀ b, b ∈ [db] → b ∉ P.L ∧ ¬ Rw P.ws W b := fun b hb => by rw [List.mem_singleton] at hb; subst hb; exact ⟨a1, a2⟩
  have hi3 := h.si.turns k hK
  have hM := bm_ok P hG
  have hi3' : BI P (20 * (60 - (t + 1)) + 160 * (20 - nx) + 4 * b.length + 1) s W3 := BI.down hG hi3 (by omega)
  have hk := hi3'.ar.k0
  refine (store_any (22 + (x : Int)) 1 (by unfold N64; omega) hi3'.ar (by have := hi3'.room; omega)).mono ?_
  rintro e w' ⟨he, haft⟩
  have e20 : (22 + (x : Int)) = (x : Int) + (2 + ((20 : Nat) : Int)) := by omega
  rw [e20] at haft
  have hok := hi3.ok.dies (t := (x : Int)) (by omega) 1
  rw [hP] at hok
  obtain ⟨hj, _, _⟩ := BI.aft hG hi3' haft (by rw [hP]; exact hok) (by unfold moreA; split <;> omega)
  have hj : BI P (20 * (60 - (t + 1)) + 160 * (20 - nx) + 4 * b.length) { s with l := setA s.l ((x : Int) + (2 + ((20 : Nat) : Int))) 1, k := moreA s.l ((x : Int) + (2 + ((20 : Nat) : Int))) s.k } w' := hj
  have hg := h.gb.dies (t := (x : Int)) (by omega) (moreA s.l ((x : Int) + (2 + ((20 : Nat) : Int))) s.k)
  obtain ⟨v0, u0, hl0, _⟩ := h.si.ow
  have hobK : P.ob ∉ [db] := fun hm => by rw [List.mem_singleton] at hm; rw [hm] at hl0; exact hl0.unlike hl (by decide) rfl
  have hobA : P.ob ∉ [P.p, P.c] := by simp; exact ⟨hG.sep.2.1, hG.sep.2.2⟩
  have iK : ∀ {W : World}, (∃ cs, Lies W db 4 cs) → ∀ b cur, Lies W b 3 cur → b ∉ [db] := fun ⟨_, h1⟩ b cur h2 hm => by rw [List.mem_singleton] at hm; subst hm; exact h2.unlike h1 (by decide) rfl
  have iA : ∀ b cur, Lies W3 b 3 cur → b ∉ [P.p, P.c] := fun b cur h2 hm => by
    simp at hm
    rcases hm with rfl | rfl
    · exact h2.unlike hi3.ar.head (by decide) rfl
    · exact h2.unlike hi3.ar.body (by decide) rfl
  have mk : ∀ {v xs}, MR P v xs W → MR P v xs w' := fun hm => (hm.turnsK h.si k (iK ⟨_, hl⟩) hobK).turnsK hi3 haft.2 iA hobA
  have hty : ∀ {g : Nat} {ty : TypeId} {cs : Array Value}, Lies W3 g ty cs → ty ≠ 101 → ty ≠ 111 → g ∉ [P.p, P.c] := fun l h1 h2 hm => by
    simp at hm
    rcases hm with rfl | rfl
    · exact l.unlike hi3.ar.head h1 rfl
    · exact l.unlike hi3.ar.body h2 rfl
  have out : ∀ {g : Nat} {ty : TypeId} {cs : Array Value}, Lies W g ty cs → ty ≠ 4 → g ∉ [db] := fun l h1 hm => by
    rw [List.mem_singleton] at hm; subst hm; exact l.unlike hl h1 rfl
  have lbx := (hctx.box.l.turn k (out hctx.box.l (by decide)))
  have lba := (hctx.xa.l.turn k (out hctx.xa.l (by decide)))
  have lbn := (hctx.xn.l.turn k (out hctx.xn.l (by decide)))
  have lbx := lbx.turn haft.2 (hty lbx (by decide) (by decide))
  have lba := lba.turn haft.2 (hty lba (by decide) (by decide))
  have lbn' := lbn.turn haft.2 (hty lbn (by decide) (by decide))
  have y1 := hj.apart_ty lbx (by decide) (by decide) (by decide) (by decide)
  have y2 := hj.apart_ty lba (by decide) (by decide) (by decide) (by decide)
  have hlow := hG.low
  have bA : Below P.B W3 w' := haft.2.below (fun b hb => (by
    simp at hb
    rcases hb with rfl | rfl
    · exact hlow.1
    · exact hlow.2.1)) (show P.B ≤ W3.heap.size from (hM.okw _ _ _ hi3).base)
  have bK : Below P.B W W3 := k.below (fun b hb => (by
    rw [List.mem_singleton] at hb
    subst hb
    exact hdb)) (show P.B ≤ W.heap.size from (hM.okw _ _ _ h.si).base)
  have hbw : Below P.B w0 w' := hbe.trans (bK.trans bA)
  refine ⟨⟨_, he⟩, ⟨⟨_, N, T, all, q, hs, b, f, fun y => if y = (x : Int) then true else d y, hj, hg.same rfl rfl, fun y hy1 hy2 => ?_, by have := h.few; omega, h.new, h.len, mk h.m, mk h.f, fun i hi => ?_⟩, ⟨_, hl3.turn haft.2 (hty hl3 (by decide) (by decide))⟩, ⟨⟨lbx, y1.1, y1.2, by decide, by show _ ∉ P.ex; rw [hxe]; simp⟩, ⟨lba, y2.1, y2.2, by decide, by show _ ∉ P.ex; rw [hxe]; simp⟩, ⟨lbn', hj.apart_int lbn', fun q => ?_, by decide, by show _ ∉ P.ex; rw [hxe]; simp⟩⟩, hbw, hnx⟩⟩
  · have hlen : s.l.length = 2 + 2 * 20 := by have := h.gb.ok.len; exact this
    have hd0 := h.mks y hy1 hy2
    rw [getA_setA]
    by_cases e : y = (x : Int)
    · subst e
      rw [if_pos ⟨rfl, by unfold hasA; simp; omega⟩]
      simp
    · rw [if_neg (fun hh => e (by omega))]
      simp only [if_neg e]
      exact hd0
  · rw [haft.2.cell (p := ⟨db, i, none⟩) hl3.lt (hty hl3 (by decide) (by decide)), hd i hi]
    by_cases e : i = x
    · subst e
      simp
    · rw [if_neg e, if_neg (by omega)]
      exact h.dead i hi
  · refine hctx.xn.row (q.same fun a ha => ?_)
    rcases BP.ws_mem.1 ha with rfl | rfl
    · exact (haft.2.cell (p := ⟨P.ob, 0, none⟩) (hl0.turn k hobK).lt hobA).trans (k.cell (p := ⟨P.ob, 0, none⟩) hl0.lt hobK)
    · exact (haft.2.cell (p := ⟨P.ob, 1, none⟩) (hl0.turn k hobK).lt hobA).trans (k.cell (p := ⟨P.ob, 1, none⟩) hl0.lt hobK)
end

end Go.Proofs.Ytgdonejclggjlaa

/- The inbox: picks one by one, and tickets that die between them. -/
namespace Go.Proofs.Ytgdonejclggjlaa
open Go.RowKit Go.ChangeShapes Go.WideShapes
set_option maxRecDepth 100000

/-- between picks: five tasks, the tickets' ways, the law's row of all tickets. -/
structure Pk9 (w0 : World) (P : BP) (bx ba bn : Nat) (all : List Int) (ts : Nat → Nat) (av tv : Value) (r e : Nat) (k : Int) (W : World) : Prop where
  at_ : ∃ s q d T hs b fs, (BM P).All r 5 ts ⟨s, q, d, 0⟩ W ∧ s.k = k ∧ Gb 20 5 T all q s hs b fs ∧ FewD q s hs b fs ∧ T ≤ e ∧ ∀ i, i < 5 → d i ≤ e
  inj : ∀ i j, i < 5 → j < 5 → ts i = ts j → i = j
  tv : VRow W P.B 35 tv ((List.range 5).map fun k => ptr (ts k))
  ctx : BCtx P bx ba bn W
  be : Below P.B w0 W
  av : MR P av all W
section
variable {w0 : World} {P : BP} {bx ba bn r e : Nat} {k : Int} {all : List Int} {ts : Nat → Nat} {av tv : Value} {W W1 W2 : World} {S : Nat → Prop}
theorem All.types {m : Nat} {c : Cfg BSt BPr} (h : (BM P).All m 5 ts c W) : ∀ b, b ∈ tsL 5 ts ++ P.L → (∃ cs, Lies W b 89 cs) ∨ (∃ cs, Lies W b 101 cs) ∨ (∃ cs, Lies W b 111 cs) ∨ ∃ cs, Lies W b 72 cs := fun b hb => by
  have hi : BI P m c.s W := h.inv
  rcases List.mem_append.1 hb with h1 | h1
  · obtain ⟨i, hi, rfl⟩ := tsL_mem.1 h1
    exact .inl (All.lies h i hi)
  · rcases BP.L_mem.1 h1 with rfl | rfl | rfl
    · exact .inr (.inl ⟨_, hi.ar.head⟩)
    · exact .inr (.inr (.inl ⟨_, hi.ar.body⟩))
    · obtain ⟨v, u, hl, _⟩ := hi.ow
      exact .inr (.inr (.inr ⟨_, hl⟩))
theorem Pk9.turns (hG : P.Good) (h : Pk9 w0 P bx ba bn all ts av tv r e k W) (t : Turns [] W W1) : Pk9 w0 P bx ba bn all ts av tv r e k W1 := by
  obtain ⟨s, q, d, T, hs, b, fs, h1, h2, h3, h4, h5, h6⟩ := h.at_
  have hM := bm_ok P hG
  have hi : BI P r s W := h1.inv
  have m := (hM.okw _ _ _ hi).mv hM t
  exact ⟨⟨s, q, d, T, hs, b, fs, ⟨fun i hi5 => (h1.tk i hi5).keep (t.block _ (h1.tk i hi5).lt (by simp)) m, hi.turns t (by simp)⟩, h2, h3, h4, h5, h6⟩, h.inj, h.tv.turns t (by simp), h.ctx.turns hG hi t (by simp) (by simp), h.be.trans (t.below (by simp) (hM.okw _ _ _ hi).base), h.av.turns hG hi t⟩
theorem Pk9.count (h : Pk9 w0 P bx ba bn all ts av tv r e k W) : Calls Try.prog 23 #[ptr P.p] W fun e w' => e = .returned (.int .i64 k) ∧ W = w' := by
  obtain ⟨s, q, d, T, hs, b, fs, h1, rfl, _⟩ := h.at_
  have hi : BI P r s W := h1.inv
  exact count_any hi.ar
/-- a ticket dies. -/
theorem Pk9.dies (hG : P.Good) (hP : P.n = 20) (h : Pk9 w0 P bx ba bn all ts av tv (r + 1) e k W) {x : Nat} (hx : x < 20) :
    Calls Try.prog 32 #[ptr P.p, .int .i64 (22 + (x : Int)), .int .u64 1] W fun e' w' => (∃ v, e' = .returned v) ∧ ∃ k', Pk9 w0 P bx ba bn all ts av tv r e k' w' := by
  obtain ⟨s, q, d, T, hs, b, fs, h1, h2, h3, h4, h5, h6⟩ := h.at_
  have hM := bm_ok P hG
  have hi : BI P (r + 1) s W := h1.inv
  have hk := hi.ar.k0
  refine (store_any (22 + (x : Int)) 1 (by unfold N64; omega) hi.ar (by have := hi.room; omega)).mono ?_
  rintro e' w' ⟨he, haft⟩
  have e20 : (22 + (x : Int)) = (x : Int) + (2 + ((20 : Nat) : Int)) := by omega
  rw [e20] at haft
  have hok := hi.ok.dies (t := (x : Int)) (by omega) 1
  rw [hP] at hok
  obtain ⟨hj, _, _⟩ := BI.aft hG hi haft (by rw [hP]; exact hok) (by unfold moreA; split <;> omega)
  have hg := h3.dies (t := (x : Int)) (by omega) (moreA s.l ((x : Int) + (2 + ((20 : Nat) : Int))) s.k)
  obtain ⟨v0, u0, hl0, _⟩ := hi.ow
  have hobA : P.ob ∉ [P.p, P.c] := by simp; exact ⟨hG.sep.2.1, hG.sep.2.2⟩
  have hty : ∀ {g : Nat} {ty : TypeId} {cs : Array Value}, Lies W g ty cs → ty ≠ 101 → ty ≠ 111 → g ∉ [P.p, P.c] := fun l h1 h2 hm => by
    simp at hm
    rcases hm with rfl | rfl
    · exact l.unlike hi.ar.head h1 rfl
    · exact l.unlike hi.ar.body h2 rfl
  have hpc : ∀ b, b ∈ [P.p, P.c] → b ∈ P.L := fun b hb => by
    simp at hb
    rcases hb with rfl | rfl
    · exact BP.L_mem.2 (.inl rfl)
    · exact BP.L_mem.2 (.inr (.inl rfl))
  have hws : ∀ a, a ∈ P.ws → a.block < W.heap.size ∧ a.block ∉ [P.p, P.c] := fun a ha => by
    have : a.block = P.ob := by rcases BP.ws_mem.1 ha with rfl | rfl <;> rfl
    rw [this]
    exact ⟨hl0.lt, hobA⟩
  have m : Mv P.B (P.L ++ P.ex) P.ws W w' := Mv.of_turns haft.2 (fun b hb => .inl (List.mem_append.2 (.inl (hpc b hb)))) hws
  have hl := hG.low
  have bA : Below P.B W w' := haft.2.below (fun b hb => (by
    simp at hb
    rcases hb with rfl | rfl
    · exact hl.1
    · exact hl.2.1)) (show P.B ≤ W.heap.size from (hM.okw _ _ _ hi).base)
  refine ⟨⟨_, he⟩, _, ⟨⟨_, q, d, T, hs, b, fs, ⟨fun i hi5 => ?_, hj⟩, rfl, hg.same rfl rfl, h4, h5, h6⟩, h.inj, h.tv.turns haft.2 (fun g hg => ?_), h.ctx.mv m, h.be.trans bA, h.av.turnsK hi haft.2 (fun b cur hb => hty hb (by decide) (by decide)) hobA⟩⟩
  · have htk := (h1.tk i hi5).less
    obtain ⟨cs, hcs⟩ := All.lies h1 i hi5
    exact htk.keep (haft.2.block _ hcs.lt (hty hcs (by decide) (by decide))) m
  · obtain ⟨_, cur, hlg⟩ := h.tv.lies hg
    exact hty hlg (by decide) (by decide)
/-- a pick. -/
theorem Pk9.pick (hG : P.Good) (hP : P.n = 20) (h : Pk9 w0 P bx ba bn all ts av tv (r + 1) e k W) (he : e ≤ 1000) {y : Int} (hy : (Lit.int .i64 y).wf = true) :
    Calls Try.prog 24 #[tv, .slice (some ⟨W.heap.size, 0, none⟩) 1 1] (W.alloc (.cells #[.int .i64 y] 3)) fun e' w' => (∃ v, e' = .returned v) ∧ ∃ k', k' ≤ k + 1 ∧ Pk9 w0 P bx ba bn all ts av tv r (e + 1) k' w' := by
  have k0 : Turns [] W (W.alloc (.cells #[.int .i64 y] 3)) := (Turns.refl _ _).alloc _
  have h2 := h.turns hG k0
  obtain ⟨s, q, d, T, hs, b, fs, a1, a2, a3, a4, a5, a6⟩ := h2.at_
  have hM := bm_ok P hG
  have hi : BI P (r + 1) s _ := a1.inv
  have l0 : Lies (W.alloc (.cells #[.int .i64 y] 3)) W.heap.size 3 #[.int .i64 y] := Lies.new _ _ _
  obtain ⟨A, cp, e1, _, e2⟩ := h2.tv.slice
  have hl : ((List.range 5).map fun i => ptr (ts i)).length = 5 := by simp
  rw [hl] at e1 e2
  obtain ⟨g, rfl, e3, e4⟩ := e2 (by omega)
  obtain ⟨_, cur, hlg⟩ := h2.tv.lies e3
  have ha := hi.apart_ty hlg (by decide) (by decide) (by decide) (by decide)
  have hTR : (BM P).TRow (W.alloc (.cells #[.int .i64 y] 3)) (some ⟨g, 0, none⟩) 5 ts := ⟨by simp only [maxLen]; omega, h.inj, fun _ => ⟨_, rfl, hlg.lt, ha.1, ha.2, fun i hi' e => by
    obtain ⟨cs, hcs⟩ := All.lies a1 i hi'
    exact hlg.unlike hcs (by decide) e, fun i hi' => by
    rw [Addr.add_mid, Nat.zero_add]
    exact e4 i _ (by simp [hi'])⟩⟩
  have hy0 : W.heap.size ∉ tsL 5 ts ++ P.L := fun hm => by
    rcases All.types a1 _ hm with ⟨cs, k⟩ | ⟨cs, k⟩ | ⟨cs, k⟩ | ⟨cs, k⟩
    · exact l0.unlike k (by decide) rfl
    · exact l0.unlike k (by decide) rfl
    · exact l0.unlike k (by decide) rfl
    · exact l0.unlike k (by decide) rfl
  have hy1 : ¬ Rw P.ws (W.alloc (.cells #[.int .i64 y] 3)) W.heap.size := fun qq => by
    obtain ⟨s0, _, _, _, _, _, _, b1, _⟩ := h.at_
    have hi0 : BI P (r + 1) s0 W := b1.inv
    obtain ⟨_, cur2, hl2⟩ := hi0.rw (BI.rows_turns hG hi0 k0 (by simp) qq)
    exact absurd hl2.lt (Nat.lt_irrefl _)
  have hRX : (BM P).RowX (W.alloc (.cells #[.int .i64 y] 3)) 5 ts (some ⟨W.heap.size, 0, none⟩) 1 [y] := ⟨⟨rfl, by simp only [maxLen]; omega, fun x hx => (by
    obtain rfl : x = y := by simpa using hx
    exact hy), fun _ => ⟨_, rfl, l0.lt, fun i hi => by
    obtain rfl : i = 0 := by omega
    rw [Addr.add_mid, Nat.zero_add]
    exact l0.cell 0⟩⟩, fun _ a ea => by
    injection ea with ea
    subst ea
    exact ⟨hy0, hy1⟩⟩
  have hgp := Gb.picks (P := P) hP (by omega) (fun j _ => fewD_keeps 20 5 all j) (c := ⟨s, q, d, 0⟩) a3 a4 [y] 1 (by simp) (by omega)
  rw [e1]
  refine (run_g (M := BM P) (f := r + 1) hM _ _ 5 cp 1 1 ts [y] ⟨s, q, d, 0⟩ _ hTR hRX a1 (by omega) rfl (fun m hm i hi5 _ _ => ?_) (fun i hi5 => by have := a6 i hi5; show d i + 1 < _; omega)).mono ?_
  · obtain rfl : m = 0 := by omega
    exact a3.w (by omega) hi5
  · rintro e' w' ⟨rfl, hra⟩
    obtain ⟨hs', b', fs', g1, g2⟩ := hgp
    have hall := hra.all
    have hkk : ((BM P).picks 5 ⟨s, q, d, 0⟩ [y] 1).s.k ≤ s.k + 1 := by
      show ((BM P).pick 5 ⟨s, q, d, 0⟩ y).s.k ≤ s.k + 1
      unfold Gm.pick
      split
      · exact bStep_k _ _ _
      · show s.k ≤ s.k + 1
        omega
    have hdd := fun i => picks_d (M := BM P) (N := 5) ⟨s, q, d, 0⟩ [y] i 1 (by simp)
    refine ⟨⟨_, rfl⟩, _, ?_, ⟨⟨_, _, _, T + 1, hs', b', fs', ⟨hall.tk, hall.inv⟩, rfl, g1, g2, by omega, fun i hi5 => ?_⟩, h.inj, ?_, h2.ctx.mv hra.mo, h2.be.trans (All.low hG a1 hra.fr), h2.av.past hG hi hra.fr (All.types a1) (.inr rfl)⟩⟩
    · rw [← a2]; exact hkk
    · have h7 := hdd i
      have h8 := a6 i hi5
      show ((BM P).picks 5 ⟨s, q, d, 0⟩ [y] 1).d i ≤ e + 1
      have h7 : ((BM P).picks 5 ⟨s, q, d, 0⟩ [y] 1).d i ≤ d i + 1 := h7
      omega
    · have h9 := h2.tv.frTasks hi (All.lies a1) hra.fr (by decide) (by decide) (by decide) (by decide) (by decide)
      rw [← e1]
      exact h9
/-- all picks are through: what the finishing loop has, and the law's row. -/
structure Fm9 (w0 : World) (P : BP) (bx ba bn : Nat) (all : List Int) (ts : Nat → Nat) (av tv : Value) (k : Nat) (W : World) : Prop where
  fn : Fn9 w0 P bx ba bn all (fun _ _ _ _ _ => True) ts tv (fun i => i < k) k W
  av : MR P av all W
theorem Pk9.fin (hG : P.Good) (h : Pk9 w0 P bx ba bn all ts av tv r e k W) (hr : 2600 ≤ r) (he : e ≤ 1000) : Fm9 w0 P bx ba bn all ts av tv 0 W := by
  obtain ⟨s, q, d, T, hs, b, fs, h1, h2, h3, h4, h5, h6⟩ := h.at_
  exact ⟨⟨⟨_, T, hs, b, fs, h1.down (bm_ok P hG) (by omega), h3, ⟨trivial, h4⟩, by omega, fun i hi hs => absurd hs (Nat.not_lt_zero _), fun i hi => by have := h6 i hi; show d i ≤ _; omega⟩, h.inj, h.tv, h.ctx, h.be⟩, h.av⟩
theorem Fm9.next (hG : P.Good) (hP : P.n = 20) (ha : all.length ≤ 20) {k : Nat} (h : Fm9 w0 P bx ba bn all ts av tv k W) (hk : k < 5) :
    Calls Try.prog 18 #[ptr (ts k), .int .i64 3000] W fun e w' => e = .returned (.bool true) ∧ Fm9 w0 P bx ba bn all ts av tv (k + 1) w' := by
  obtain ⟨c, T, hs, b, fs, hall, hgb, hi, hT, hS0, hd⟩ := h.fn.at_
  have hM := bm_ok P hG
  have hrk := hgb.rk_few hk ha (Nat.le_refl _) (hi.2 k)
  have hKK := keeps_and (keeps_true 20 5 all k) (fewD_keeps 20 5 all k)
  obtain ⟨q', hs', bx', fs', g1, g2, g3, g4, g5, _, g7⟩ := Gb.ends (P := P) hP hk (by omega) hKK hgb hi (c.d k) 500 (by omega) hrk
  have hdj := hd k hk
  have eq : updF c.q k ((BM P).runN (c.q k) c.s (c.d k) 500).1 = q' := funext fun i => by
    by_cases e : i = k
    · subst e; rw [updF_same, g3]
    · rw [updF_ne _ _ e, (g4 i e).1]
  have hBI : BI P (2600 - 501 * k) c.s W := hall.inv
  refine (hall.fin hM h.fn.inj hk 3000 (m0 := 500) (by omega) (by omega) (by omega) g5 (fun i hi' _ => hgb.w_alone hP (by omega) hk (c.d k) i (by omega)) (by omega)).mono ?_
  rintro e w' ⟨rfl, a1, a2, a3⟩
  have hdd := runN_dle (M := BM P) (q := c.q k) (s := c.s) (d := c.d k) 500
  rw [eq] at a1
  refine ⟨rfl, ⟨⟨_, T + 500, hs', bx', fs', a1.down hM (by omega), g1, g2, by omega, fun i hi5 hSi => ?_, fun i hi5 => ?_⟩, h.fn.inj, h.fn.tv.frTasks hall.inv (All.lies hall) a2 (by decide) (by decide) (by decide) (by decide) (by decide), h.fn.ctx.mv a3, h.fn.be.trans (All.low hG hall a2)⟩, h.av.past hG hBI a2 (All.types hall) (.inr rfl)⟩
  · show (q' i).m = .done
    by_cases e : i = k
    · subst e; exact g7
    · rw [(g4 i e).1]; exact hS0 i hi5 (show i < k by have : i < k + 1 := hSi; omega)
  · show updF c.d k _ i ≤ _
    have := hd i hi5
    by_cases e : i = k
    · subst e; rw [updF_same]; omega
    · rw [updF_ne _ _ e]; omega
/-- all have ended: what is where. -/
structure Ed9 (w0 : World) (P : BP) (bx ba bn : Nat) (all : List Int) (av : Value) (s : BSt) (b f : List Int) (W : World) : Prop where
  si : BI P 0 s W
  eb : chL s.l (fun i => i + 2) s.l.length (hIx (getA s.l 0)) = b
  ef : chL s.l (fun i => i + 2) s.l.length (hIx (getA s.l 1)) = f
  dead : ∀ x, x ∈ f → 0 ≤ x ∧ x < 20 ∧ getA s.l (x + 22) = 1
  cnt : ∀ a, s.got.count a + b.count a + f.count a = all.count a
  one : ∀ a, all.count a ≤ 1
  ctx : BCtx P bx ba bn W
  be : Below P.B w0 W
  av : MR P av all W
theorem Fm9.ends (hG : P.Good) (ha : all.length ≤ 20) (h : Fm9 w0 P bx ba bn all ts av tv 5 W) : ∃ s b f, Ed9 w0 P bx ba bn all av s b f W := by
  obtain ⟨c, T, hs, b, fs, hall, hgb, hi, hT, hS0, hd⟩ := h.fn.at_
  have hBI : BI P (2600 - 501 * 5) c.s W := hall.inv
  obtain ⟨t1, t2⟩ := hgb.told (by omega) ha
  have hz : ∀ j, j < 5 → hs j = [] := fun j hj => by
    have hw := hgb.wk j hj
    have hm := hS0 j hj hj
    unfold WkB at hw
    rw [hm] at hw
    exact hw.1
  have hB : allB 5 hs = [] := by
    unfold allB
    exact List.flatMap_eq_nil_iff.2 fun j hj => hz j (List.mem_range.1 hj)
  refine ⟨c.s, b, fs, BI.down hG hBI (Nat.zero_le _), t1, t2, fun x hx => ?_, fun a => ?_, hgb.one, h.fn.ctx, h.fn.be, h.av⟩
  · have h1 := hgb.mem_fs hx
    have h2 := hgb.dead x hx
    refine ⟨h1.1, by omega, ?_⟩
    rw [show x + 22 = x + (2 + ((20 : Nat) : Int)) by omega]
    exact h2
  · have := hgb.cnt a
    rw [hB] at this
    simp at this
    omega
theorem Ed9.turns (hG : P.Good) {s : BSt} {b f : List Int} (h : Ed9 w0 P bx ba bn all av s b f W) (t : Turns [] W W1) : Ed9 w0 P bx ba bn all av s b f W1 :=
  ⟨h.si.turns t (by simp), h.eb, h.ef, h.dead, h.cnt, h.one, h.ctx.turns hG h.si t (by simp) (by simp), h.be.trans (t.below (by simp) ((bm_ok P hG).okw _ _ _ h.si).base), h.av.turns hG h.si t⟩
end

end Go.Proofs.Ytgdonejclggjlaa

/- The inbox: a row is appended to a row, in a region that draws its order; what all tickets come to. -/
namespace Go.Proofs.Ytgdonejclggjlaa
open Go.RowKit Go.ChangeShapes Go.WideShapes
set_option maxRecDepth 100000

/-- a row is appended to a row. -/
theorem step_more {W : World} {B : Nat} {xs ys : List Int} {v u : Value} {ops : Array Oper} {o : Oper} {a : Act} {Q : Exit → Act → World → Prop} {K : Act → World → Prop} {E : Prop} (hgd : Region.wanted o (yielded ops a.tmps) = true) (s x : Operand) (ho : o.op = .call { callee := .builtin .append, args := #[s, x], argTypes := #[31, 31] })
    (hs : a.eval s = v) (hx : a.eval x = u) (hv : IRow W B v xs) (hu : ∃ A c, u = .slice A ys.length c ∧ Row W .i64 A ys.length ys) (hl : xs.length + ys.length ≤ 1000) (hB : B ≤ W.heap.size)
    (hK : ∀ v' w', IRow w' B v' (xs ++ ys) → Turns v.ownBlock.toList W w' → (∀ b, v'.ownBlock = some b → v.ownBlock = some b ∨ W.heap.size ≤ b) → K (a.put o.dst v') w') : if Region.wanted o (yielded ops a.tmps) = true then Oper.wp Try.prog o a W K Q else E := by
  rw [if_pos hgd]
  obtain ⟨i0, hi0, hz0, hz1, hz2⟩ := info_parts int_info4
  obtain ⟨A, c, hue, hur⟩ := hu
  by_cases hn : ys.length = 0
  · obtain rfl := List.length_eq_zero_iff.1 hn
    have hk := hK v W (by rw [List.append_nil]; exact hv) (Turns.refl _ _) (fun b hb => .inl hb)
    have hx' := hx.trans hue
    simp only [List.length_nil] at hx'
    have ht : Try.prog.underlying 31 = some (.slice 3) := Try.underlying31
    rcases hv.shape with ⟨rfl, _⟩ | ⟨g, cap, rfl, hc⟩
    · have hrun : (Builtin.append_ #[31, 31] o.type #[.slice none 0 0, .slice A 0 c]).run Try.prog W = .ok (.slice none 0 0) W := by
        cases A <;> simp [Builtin.append_, run_underlying ht, sizeOf, typeInfo, hi0, Builtin.lenOf, Builtin.firstCells, loadCells, loadCellsFrom]
      unfold Oper.wp
      simp [execOp, ho, resolve, invoke, builtin, hs, hx', hrun, Result.andThen]
      exact hk
    · have hrun : (Builtin.append_ #[31, 31] o.type #[.slice (some ⟨g, 0, none⟩) xs.length cap, .slice A 0 c]).run Try.prog W = .ok (.slice (some ⟨g, 0, none⟩) xs.length cap) W := by
        cases A <;> simp [Builtin.append_, run_underlying ht, sizeOf, typeInfo, hi0, Builtin.lenOf, Builtin.firstCells, hc, storeCells, loadCells, loadCellsFrom]
      unfold Oper.wp
      simp [execOp, ho, resolve, invoke, builtin, hs, hx', hrun, Result.andThen]
      exact hk
  · obtain ⟨ad, rfl, hab, hcell⟩ := hur.at_ (by omega)
    have hyl := hur.len
    refine wp_append_lies W s x 31 ho B 3 i0 _ 1 8 Try.underlying31 hi0 hz0 hz1 hz2 rfl (by omega) v xs.length (xs.map (Value.int .i64)) hs hv.own ad ys.length c (ys.map (Value.int .i64)) (hx.trans hue) (by simp) ?_ ?_ (by omega) (by simp only [maxLen]; omega) (by omega) hB _ rfl ?_
    · intro j u hu
      rw [List.getElem?_map] at hu
      obtain ⟨y, hy, rfl⟩ := Option.map_eq_some_iff.1 hu
      have hj : j < ys.length := (List.getElem?_eq_some_iff.1 hy).1
      rw [hcell j hj]
      simp [List.getD, hy]
    · intro u hu
      obtain ⟨j, _, rfl⟩ := List.mem_map.1 hu
      rfl
    · intro g cap w' h1 h2 h3 _
      rw [← List.map_append, ← List.length_append] at h1
      have h := hK (.slice (some ⟨g, 0, none⟩) (xs ++ ys).length cap) w' ⟨h1, hv.ints.app hur.wf⟩ ⟨h2.os, h2.tape, h2.output, h2.size, fun b hb hm => h2.block b hb (fun e => hm (by rw [← e]; simp))⟩ (fun b hb => by
        simp [Value.ownBlock] at hb
        subst hb
        exact h3.imp id (fun h => by omega))
      rw [List.length_append] at h
      exact h

/-- whether a number is among the first ones. -/
def among (al : List Int) (j : Nat) (x : Int) : Bool := (al.take j).any fun n => n == x
theorem among_succ {al : List Int} {j : Nat} {x : Int} (h : j < al.length) : among al (j + 1) x = (among al j x || (al.getD j 0 == x)) := by
  unfold among
  rw [List.take_succ_eq_append_getElem h, List.any_append]
  simp [List.getD, h]
theorem among_all {al : List Int} {x : Int} : among al al.length x = decide (x ∈ al) := by
  unfold among
  rw [List.take_length]
  by_cases h : x ∈ al
  · rw [decide_eq_true h, List.any_eq_true]
    exact ⟨x, h, by simp⟩
  · rw [decide_eq_false h, List.any_eq_false]
    intro y hy e
    simp at e
    exact h (e ▸ hy)
/-- those of the first numbers that are not there. -/
def missing (al : List Int) (t : Nat) : List Int := ((List.range t).map fun (i : Nat) => (i : Int)).filter fun x => !decide (x ∈ al)
theorem missing_succ (al : List Int) (t : Nat) : missing al (t + 1) = if (t : Int) ∈ al then missing al t else missing al t ++ [(t : Int)] := by
  unfold missing
  rw [List.range_succ, List.map_append, List.filter_append]
  by_cases h : (t : Int) ∈ al <;> simp [h]
theorem missing_len (al : List Int) : ∀ t, (missing al t).length ≤ t
  | 0 => Nat.le_refl _
  | t + 1 => by
    have := missing_len al t
    rw [missing_succ]
    split
    · omega
    · simp; omega
theorem count_range (t : Nat) (a : Int) : ((List.range t).map fun (i : Nat) => (i : Int)).count a = if 0 ≤ a ∧ a < t then 1 else 0 := by
  induction t with
  | zero => simp
  | succ t ih =>
    rw [List.range_succ, List.map_append, List.count_append, ih]
    by_cases h : a = (t : Int)
    · subst h
      simp
      omega
    · have e : [(t : Int)].count a = 0 := by
        rw [List.count_eq_zero]
        simp
        exact h
      simp only [List.map_cons, List.map_nil, e]
      by_cases h1 : 0 ≤ a ∧ a < t
      · rw [if_pos h1, if_pos (by omega)]
      · rw [if_neg h1, if_neg (by omega)]
theorem all_there {al l : List Int} (hc : ∀ a, l.count a = al.count a) (h1 : ∀ a, al.count a ≤ 1) (hr : ∀ x, x ∈ al → 0 ≤ x ∧ x < 20) : (l ++ missing al 20).Perm ((List.range 20).map fun (i : Nat) => (i : Int)) := by
  refine List.perm_iff_count.2 fun a => ?_
  rw [List.count_append, hc, count_range]
  unfold missing
  by_cases h : a ∈ al
  · have h2 := hr a h
    have h3 := count_mem.1 h
    have h4 := h1 a
    have e : (((List.range 20).map fun (i : Nat) => (i : Int)).filter fun x => !decide (x ∈ al)).count a = 0 := List.count_eq_zero.2 fun hm => by
      have := (List.mem_filter.1 hm).2
      simp at this
      exact this h
    rw [e, if_pos (by omega)]
    omega
  · have e : al.count a = 0 := List.count_eq_zero.2 h
    rw [e, List.count_filter (by simp [h]), count_range]
    omega
end Go.Proofs.Ytgdonejclggjlaa

/- Layer 8: the document's Each; the picks by which tasks come to their ends. -/
namespace Go.Proofs.Ytgdonejclggjlaa
open Go.RowKit Go.ChangeShapes Go.WideShapes
set_option maxRecDepth 100000

/-- 'append([]int{}, l...)', of a slice that was handed in. -/
theorem wpList_copyr {W : World} {A : Option Addr} {c : Nat} {xs : List Int} {ops : Array Oper} {rest : List Oper} {o : Oper} {a : Act} {Q : Exit → Act → World → Prop} (hgd : o.guard = none) (s x : Operand) (ho : o.op = .call { callee := .builtin .append, args := #[s, x], argTypes := #[31, 31] })
    (hs : a.eval s = .slice (some ⟨W.heap.size, 0, none⟩) 0 0) (hx : a.eval x = .slice A xs.length c) (hr : Row W .i64 A xs.length xs) (hl : xs.length ≤ 1000)
    (hK : ∀ g c' w', IRow w' W.heap.size (.slice (some ⟨g, 0, none⟩) xs.length c') xs → xs.length ≤ c' → Turns [] W w' → wpList Try.prog ops Q rest (a.put o.dst (.slice (some ⟨g, 0, none⟩) xs.length c')) w') : wpList Try.prog ops Q (o :: rest) a (W.alloc (.cells #[] 3)) := by
  obtain ⟨i0, hi0, hz0, hz1, hz2⟩ := info_parts int_info4
  have h0 : (W.alloc (.cells #[] 3)).ownsRow W.heap.size 3 1 (.slice (some ⟨W.heap.size, 0, none⟩) 0 0) 0 [] :=
    ⟨rfl, .inr ⟨W.heap.size, 0, #[], rfl, Nat.le_refl _, heap_alloc_new W _, Nat.le_refl _, by simp [maxLen], rfl, rfl⟩⟩
  have k0 : Turns [] W (W.alloc (.cells #[] 3)) := (Turns.refl _ _).alloc _
  by_cases hn : xs.length = 0
  · obtain rfl := List.length_eq_zero_iff.1 hn
    exact wpList_append_zero hgd s x 31 ho 3 i0 Try.underlying31 hi0 ⟨W.heap.size, 0, none⟩ 0 0 A c (Nat.le_refl _) hs hx (hK _ 0 _ ⟨h0, Ints.nil⟩ (Nat.le_refl _) k0)
  · obtain ⟨ad, rfl, hab, hcell⟩ := hr.at_ (by omega)
    refine wpList_append_lies _ hgd s x 31 ho W.heap.size 3 i0 _ 1 8 Try.underlying31 hi0 hz0 hz1 hz2 rfl (by omega) _ 0 [] hs h0 ad xs.length c (xs.map (Value.int .i64)) hx (by simp) ?_ ?_ (by omega) (by simp only [maxLen]; omega) (by omega) (by simp) _ rfl ?_
    · intro j u hu
      rw [List.getElem?_map] at hu
      obtain ⟨y, hy, rfl⟩ := Option.map_eq_some_iff.1 hu
      have hj : j < xs.length := (List.getElem?_eq_some_iff.1 hy).1
      rw [(k0.cell (p := ad.add j) (by rw [add_block]; exact hab) (by simp)), hcell j hj]
      simp [List.getD, hy]
    · intro u hu
      obtain ⟨j, _, rfl⟩ := List.mem_map.1 hu
      rfl
    · intro g' cap w' h1 h2 h3 _
      rw [Nat.zero_add] at h1 ⊢
      refine hK _ _ _ ⟨by simpa using h1, hr.wf⟩ ?_ ⟨h2.os, h2.tape, h2.output, ?_, fun b hb _ => ?_⟩
      · obtain ⟨A', c', e, hle⟩ := own_slice (n := xs.length) h1
        injection e with _ _ e3
        omega
      · have := h2.size
        simp at this
        omega
      · rw [h2.block b (by simp; omega) (by simp [Value.ownBlock]; omega)]
        exact Below.heap_alloc W _ b hb
/-- 'append(l, m...)', of a slice of the call's own that isn't nil. -/
theorem wpList_morer {W : World} {B g c : Nat} {A : Option Addr} {ca : Nat} {xs ys : List Int} {ops : Array Oper} {rest : List Oper} {o : Oper} {a : Act} {Q : Exit → Act → World → Prop} (hgd : o.guard = none) (s x : Operand) (ho : o.op = .call { callee := .builtin .append, args := #[s, x], argTypes := #[31, 31] })
    (h : IRow W B (.slice (some ⟨g, 0, none⟩) xs.length c) xs) (hc : xs.length ≤ c) (hB : B ≤ W.heap.size) (hs : a.eval s = .slice (some ⟨g, 0, none⟩) xs.length c) (hx : a.eval x = .slice A ys.length ca) (hr : Row W .i64 A ys.length ys) (hl : xs.length + ys.length ≤ 100000)
    (hK : ∀ v' w', IRow w' B v' (xs ++ ys) → Below B W w' → wpList Try.prog ops Q rest (a.put o.dst v') w') : wpList Try.prog ops Q (o :: rest) a W := by
  by_cases hn : ys.length = 0
  · obtain rfl := List.length_eq_zero_iff.1 hn
    obtain ⟨i0, hi0, _⟩ := info_parts int_info4
    exact wpList_append_zero hgd s x 31 ho 3 i0 Try.underlying31 hi0 ⟨g, 0, none⟩ xs.length c A ca hc hs hx (hK _ _ (by rw [List.append_nil]; exact h) (Below.refl _ _))
  · exact wpList_irow h hB hgd s x ho hs hx hr (by omega) hl (fun v' w' h1 h2 _ => hK v' w' h1 h2)

/-- a block of numbers by a rule. -/
def cellsF (n : Nat) (f : Nat → Nat) : Array Value := ((List.range n).map fun i => Value.int .i64 (f i : Int)).toArray
theorem cellsF_at {n i : Nat} {f : Nat → Nat} (h : i < n) : (cellsF n f)[i]? = some (.int .i64 (f i : Int)) := by simp [cellsF, h]
theorem cellsF_set {n i v : Nat} {f : Nat → Nat} (_ : i < n) : (cellsF n f).setIfInBounds i (.int .i64 (v : Int)) = cellsF n (updF f i v) := by
  apply Array.ext
  · simp [cellsF]
  · intro j h1 h2
    by_cases e : i = j
    · subst e; simp [cellsF, updF]
    · have e2 : j ≠ i := fun h => e h.symm
      simp [cellsF, updF, e, e2]
theorem make_zeros (n : Nat) (hn : n ≤ 1048576) (W : World) :
    (Instr.makeSlice 31 (.int .i64 (n : Int)) (.int .i64 (n : Int))).run Try.prog W = .ok (.slice (some ⟨W.heap.size, 0, none⟩) n n) (W.alloc (.cells (cellsF n fun _ => 0) 3)) := by
  obtain ⟨i, hi, hz, hs, hb⟩ := info_parts (P := Try.prog) (t := 3) (z := .int .i64 0) (s := 1) (b := 8) (by kernel_rfl)
  have hr := run_make (P := Try.prog) W 31 3 i _ Try.underlying31 hi hz .i64 .i64 n n (by omega) (by omega) (by rw [hb]; omega) (by omega)
  simp only [Int.toNat_natCast, hs, Nat.mul_one] at hr
  rw [hr]
  have e : madeCells #[.int .i64 0] n = cellsF n fun _ => 0 := by
    apply Array.ext
    · simp [madeCells, cellsF]
    · intro i h1 h2
      simp [madeCells, cellsF, Nat.mod_one]
  show _ = Result.ok _ (W.alloc (.cells (cellsF n fun _ => 0) 3))
  rw [← e]
  rfl

/-- the picks of so many tasks, each picked 78 times. -/
def endsL (n : Nat) : List Int := (List.range n).flatMap fun (i : Nat) => List.replicate 78 (i : Int)
theorem endsL_succ (n : Nat) : endsL (n + 1) = endsL n ++ List.replicate 78 (n : Int) := by
  unfold endsL
  rw [List.range_succ, List.flatMap_append]
  simp
theorem endsL_len (n : Nat) : (endsL n).length = 78 * n := by
  induction n with
  | zero => rfl
  | succ n ih => rw [endsL_succ, List.length_append, ih, List.length_replicate]; omega

set_option maxHeartbeats 1000000 in
theorem ends_any (n : Nat) (hn : n ≤ 5) (w : World) : Calls Try.prog 21 #[.int .i64 n] w fun e w' => ∃ v, e = .returned v ∧ IRow w' w.heap.size v (endsL n) ∧ Below w.heap.size w w' := by
  have h0 : Out w (.slice none 0 0) [] w := ⟨IRow.nil _ _, Below.refl _ _⟩
  go_enter Try.func21, Try.ntmps21
  go_wp2_with fail
  go_loopw [3, 4, 6] (fun v _ i W => ∃ m : Nat, i = .int .i64 (m : Int) ∧ m ≤ n ∧ Out w v (endsL m) W) (fun _ _ i _ => n - (intOf i).toNat)
  case atStart => exact ⟨0, rfl, Nat.zero_le _, h0⟩
  case round =>
    clear h0
    obtain ⟨m, rfl, hmn, hO⟩ := hrel
    generalize wr = W at *
    generalize u3 = v at *
    by_cases hm : m < n
    · have hlen := endsL_len m
      go_wp2_with fail
      go_loopw [3, 9] (fun v j W => ∃ q : Nat, j = .int .i64 (q : Int) ∧ q ≤ 78 ∧ Out w v (endsL m ++ List.replicate q (m : Int)) W) (fun _ j _ => 78 - (intOf j).toNat)
      case atStart => exact ⟨0, rfl, Nat.zero_le _, by simpa using hO⟩
      case round =>
        clear hO
        obtain ⟨q, rfl, hq, hO⟩ := hrel
        generalize wr = W2 at *
        generalize u3 = v2 at *
        by_cases hq2 : q < 78
        · have hq3 : (q : Int) < 78 := by omega
          have hll : (endsL m ++ List.replicate q (m : Int)).length ≤ 10000 := by rw [List.length_append, hlen, List.length_replicate]; omega
          have F : ∀ v' w', Out w v' ((endsL m ++ List.replicate q (m : Int)) ++ [(m : Int)]) w' → Out w v' (endsL m ++ List.replicate (q + 1) (m : Int)) w' := fun v' w' h => by
            rw [List.append_assoc] at h
            rw [List.replicate_succ']
            exact h
          have hF := Lib.hid F
          clear F
          generalize endsL m ++ List.replicate q (m : Int) = ys at *
          go_wp2_with (first | (at_builtin; refine wpList_out hO (n := (m : Int)) (WalkArith.wf_i64 (by omega)) hll (by rfl) (.tmp 11) (.tmp 13) rfl rfl rfl ?_; intro v3 w3 hO3) | fail)
          go_roundw
          case rel => exact ⟨q + 1, by go_num, by omega, hF.out _ _ hO3⟩
          case measure => simp [intOf]; omega
        · obtain rfl : q = 78 := by omega
          rw [← endsL_succ] at hO
          go_wp2_with fail
          go_roundw
          case rel => exact ⟨m + 1, by go_num, by omega, hO⟩
          case measure => simp [intOf]; omega
    · obtain rfl : m = n := by omega
      go_wp2_with fail
      go_ret
      exact ⟨_, rfl, hO.row, hO.be⟩

end Go.Proofs.Ytgdonejclggjlaa

/- Layer 8: the document's Each. -/
namespace Go.Proofs.Ytgdonejclggjlaa
open Go.RowKit Go.ChangeShapes Go.WideShapes
set_option maxRecDepth 100000

theorem getD_get {l : List Int} {i : Nat} (h : i < l.length) : l.getD i 0 = l[i] := by simp [List.getD, h]
/-- in Each's first loop: m numbers are counted. -/
structure Ea (w : World) (k : Nat) (v : Value) (all : List Int) (m : Nat) (W : World) : Prop where
  le : m ≤ all.length
  cnt : Lies W w.heap.size 3 (cellsF k fun j => (all.take m).count (j : Int))
  row : IRow W (w.heap.size + 1) v all
  be : Below w.heap.size w W

set_option maxHeartbeats 1000000 in
theorem each_any (A B : Option Addr) (ca cb : Nat) (xs ys : List Int) (k : Nat) (w : World) (ha : Row w .i64 A xs.length xs) (hb : Row w .i64 B ys.length ys) (hp : (xs ++ ys).Perm ((List.range k).map fun (i : Nat) => (i : Int))) (hk : k ≤ 500) :
    Calls Try.prog 26 #[.slice A xs.length ca, .slice B ys.length cb, .int .i64 k] w fun e w' => e = .returned (.bool true) ∧ Below w.heap.size w w' := by
  have hmk := make_zeros k (by omega)
  have hlen : xs.length + ys.length = k := by have := hp.length_eq; simpa using this
  have hcount : ∀ j, j < k → (xs ++ ys).count ((j : Nat) : Int) = 1 := fun j hj => by
    rw [hp.count_eq]
    have hnd : ((List.range k).map fun (i : Nat) => (i : Int)).Nodup := by
      refine List.pairwise_map.2 (List.nodup_range.imp fun {a b} hne e => hne ?_)
      have e : (a : Int) = b := e
      omega
    rw [hnd.count, if_pos (List.mem_map.2 ⟨j, List.mem_range.2 hj, rfl⟩)]
  have hrange : ∀ i, i < (xs ++ ys).length → ∃ j : Nat, j < k ∧ (xs ++ ys).getD i 0 = (j : Int) := fun i hi => by
    have h1 : (xs ++ ys).getD i 0 ∈ xs ++ ys := by rw [getD_get hi]; exact List.getElem_mem hi
    obtain ⟨j, hj, e⟩ := List.mem_map.1 (hp.subset h1)
    exact ⟨j, List.mem_range.1 hj, e.symm⟩
  have kW : Turns [] w (w.alloc (.cells (cellsF k fun _ => 0) 3)) := (Turns.refl _ _).alloc _
  have lW : Lies (w.alloc (.cells (cellsF k fun _ => 0) 3)) w.heap.size 3 (cellsF k fun _ => 0) := Lies.new _ _ _
  have zW : (w.alloc (.cells (cellsF k fun _ => 0) 3)).heap.size = w.heap.size + 1 := by simp
  have bW : Below w.heap.size w (w.alloc (.cells (cellsF k fun _ => 0) 3)) := kW.below (by simp) (Nat.le_refl _)
  have haW := ha.keep (Nat.le_refl _) bW
  have hbW := hb.keep (Nat.le_refl _) bW
  have F : ∀ v w2 w3, Turns [] (w.alloc (.cells (cellsF k fun _ => 0) 3)) w2 → IRow w3 (w.alloc (.cells (cellsF k fun _ => 0) 3)).heap.size v (xs ++ ys) → Below (w.alloc (.cells (cellsF k fun _ => 0) 3)).heap.size w2 w3 → Ea w k v (xs ++ ys) 0 w3 := fun v w2 w3 t2 r3 b3 => by
    have l2 := lW.turn t2 (by simp)
    refine ⟨Nat.zero_le _, ?_, by rw [← zW]; exact r3, bW.trans ((t2.below (B := w.heap.size) (by simp) (by rw [zW]; omega)).trans (b3.mono (by rw [zW]; omega)))⟩
    have := l2.below b3 (by rw [zW]; omega)
    simpa using this
  have hbT : ∀ w2, Turns [] (w.alloc (.cells (cellsF k fun _ => 0) 3)) w2 → Row w2 .i64 B ys.length ys := fun w2 t2 => hbW.keep (Nat.le_refl _) (t2.below (by simp) (Nat.le_refl _))
  clear ha hb hp hbW
  go_enter Try.func26, Try.ntmps26
  go_upto_region 2 with (fail)
  clear kW lW bW hmk zW
  generalize (w.alloc (.cells (cellsF k fun _ => 0) 3)) = W1 at *
  go_upto_region 3 with (first | (at_builtin; refine wpList_copyr rfl (.tmp 13) (.tmp 14) rfl rfl rfl haW (by omega) ?_; intro g c' w2 r2 hc2 t2) | (at_builtin; refine wpList_morer rfl (.tmp 15) (.tmp 16) rfl r2 hc2 t2.size rfl rfl (hbT _ t2) (by omega) ?_; intro v3 w3 r3 b3) | fail)
  have hE := F _ _ _ t2 r3 b3
  clear F r2 r3 b3 t2 hbT haW
  obtain ⟨all, hall⟩ : ∃ all, xs ++ ys = all := ⟨_, rfl⟩
  rw [hall] at hE hcount hrange
  have hal : all.length = k := by rw [← hall, List.length_append]; exact hlen
  clear hall
  go_wp2_with fail
  go_loopw [9] (fun i W => ∃ m : Nat, i = .int .i64 (m : Int) ∧ Ea w k v3 all m W) (fun i _ => k - (intOf i).toNat)
  case atStart => exact ⟨0, rfl, hE⟩
  case round =>
    clear hE
    obtain ⟨m, rfl, hE⟩ := hrel
    generalize wr = W at *
    obtain ⟨hle, hcnt, hrow, hbe⟩ := hE
    by_cases hm : m < k
    · obtain ⟨x, hx, hxe⟩ := hrange m (by omega)
      obtain ⟨A3, c3, hv, hr3⟩ := hrow.row
      rw [hal] at hv hr3
      obtain ⟨a3, ea3, _, hc3⟩ := hr3.at_ (by omega)
      obtain ⟨g3, hg3⟩ : ∃ g3, A3 = some ⟨g3, 0, none⟩ := by
        rcases hrow.own.2 with ⟨h0, h1⟩ | ⟨g, cap, cur, h0, _⟩
        · omega
        · rw [h0] at hv
          injection hv with hv _ _
          exact ⟨g, hv.symm⟩
      have hcm : W.cell? ⟨g3, m, none⟩ = some (.int .i64 (x : Int)) := by
        rw [hg3] at ea3
        injection ea3 with ea3
        have := hc3 m hm
        rwa [← ea3, add_head4, hxe] at this
      have hne : g3 ≠ w.heap.size := fun e => by
        have := (hrow.lt g3 (by rw [hv, hg3]; rfl)).1
        omega
      have hcx : W.cell? ⟨w.heap.size, x, none⟩ = some (.int .i64 (((all.take m).count (x : Int) : Nat) : Int)) := by rw [hcnt.cell x, cellsF_at hx]
      have hfx : W.frozen? ⟨w.heap.size, x, none⟩ = false := hcnt.frozen x
      have hctm : (all.take m).count (x : Int) ≤ m := Nat.le_trans List.count_le_length (by rw [List.length_take]; omega)
      have F : Ea w k v3 all (m + 1) (W.drew.setCell ⟨w.heap.size, x, none⟩ (.int .i64 (((all.take m).count (x : Int) : Nat) + 1 : Int))) := by
        have e1 : all.take (m + 1) = all.take m ++ [(x : Int)] := by
          rw [List.take_succ_eq_append_getElem (by omega)]
          rw [getD_get (by omega)] at hxe
          rw [hxe]
        refine ⟨by omega, ?_, ?_, hbe.drew.setCell (p := ⟨w.heap.size, x, none⟩) (Nat.le_refl _) _⟩
        · have h1 := (hcnt.drew).set x (.int .i64 (((all.take m).count (x : Int) + 1 : Nat) : Int))
          rw [cellsF_set hx] at h1
          have e2 : (updF (fun j => (all.take m).count ((j : Nat) : Int)) x ((all.take m).count (x : Int) + 1)) = fun j => (all.take (m + 1)).count ((j : Nat) : Int) := by
            funext j
            rw [e1, List.count_append]
            by_cases e : j = x
            · subst e; simp [updF]
            · have e3 : ¬ ((x : Int) = (j : Int)) := by omega
              simp [updF, e, e3]
          rw [e2] at h1
          exact h1
        · refine hrow.kept fun g hg => ?_
          have hlt := (hrow.lt g hg)
          exact Below.heap_setCell W.drew ⟨w.heap.size, x, none⟩ _ g (by show g ≠ w.heap.size; omega)
      subst hv
      subst hg3
      have hkm : (m : Int) < k := by omega
      have hxk : (x : Int) < k := by omega
      have hxn : ¬ ((x : Int) < 0) := by omega
      have hxk2 : ¬ ((k : Int) ≤ x) := by omega
      clear hcnt hrow hbe hrange hcount hr3 hc3 ea3 hxe
      generalize (all.take m).count (x : Int) = cx at *
      go_upto_region 8 with (fail)
      go_still_tail 14, (by kernel_rfl)
      change wpList _ _ _ _ _ W.drew
      have hfx : W.drew.frozen? ⟨w.heap.size, x, none⟩ = false := hfx
      have hcx : W.drew.cell? ⟨w.heap.size, x, none⟩ = some (.int .i64 (cx : Int)) := hcx
      generalize W.drew = W9 at *
      go_wp2_with fail
      go_roundw
      case rel => exact ⟨m + 1, by go_num, F⟩
      case measure => simp [intOf]; omega
    · obtain rfl : m = k := by have := hal; omega
      have ht : all.take all.length = all := List.take_length
      rw [← hal, ht] at hcnt
      rw [hal] at hcnt
      have hone : ∀ i, i < m → W.cell? ⟨w.heap.size, i, none⟩ = some (.int .i64 1) := fun i hi => by
        rw [hcnt.cell i, cellsF_at hi, hcount i hi]
        rfl
      obtain ⟨A3, c3, hv, _⟩ := hrow.row
      rw [hal] at hv
      subst hv
      clear hcnt hrow hrange hcount ht
      go_wp2_with fail
      go_loopw [10] (fun i W9 => ∃ q : Nat, i = .int .i64 (q : Int) ∧ q ≤ m ∧ W9 = W) (fun i _ => m - (intOf i).toNat)
      case atStart => exact ⟨0, rfl, Nat.zero_le _, rfl⟩
      case round =>
        obtain ⟨q, rfl, hq, rfl⟩ := hrel
        by_cases hq2 : q < m
        · have h1 := hone q hq2
          go_wp2_with fail
          go_roundw
          case rel => exact ⟨q + 1, by go_num, by omega, by trivial⟩
          case measure => simp [intOf]; omega
        · obtain rfl : q = m := by omega
          go_wp2_with fail
          go_ret
          exact ⟨rfl, hbe⟩

end Go.Proofs.Ytgdonejclggjlaa

/- The inbox: many tasks. -/
namespace Go.Proofs.Ytgdonejclggjlaa
open Go.RowKit Go.ChangeShapes Go.WideShapes
set_option maxRecDepth 100000

theorem MR.of_irow {P : BP} {r : Nat} {s : BSt} {W : World} {B : Nat} {v : Value} {xs : List Int} (_ : BI P r s W) (h : IRow W B v xs) (nor : ∀ b, ¬ Rw P.ws W b) : MR P v xs W := by
  obtain ⟨A, cp, e, hr⟩ := h.row
  obtain ⟨A', cp', e', hle⟩ := own_slice (n := xs.length) h.own
  rw [e] at e'
  injection e' with e1 _ e3
  subst e1
  subst e3
  refine ⟨A, cp, e, hle, hr, fun a ea hp => ?_⟩
  have ho : v.ownBlock = some a.block := by rw [e, ea]; rfl
  obtain ⟨_, cur, hl⟩ := own_block h.own ho
  exact ⟨⟨cur, hl⟩, nor _⟩
theorem Pk9.less {w0 : World} {P : BP} {bx ba bn r e : Nat} {k : Int} {all : List Int} {ts : Nat → Nat} {av tv : Value} {W : World} (hG : P.Good) (h : Pk9 w0 P bx ba bn all ts av tv (r + 1) e k W) : Pk9 w0 P bx ba bn all ts av tv r e k W := by
  obtain ⟨s, q, d, T, hs, b, fs, h1, h2⟩ := h.at_
  exact ⟨⟨s, q, d, T, hs, b, fs, h1.less (bm_ok P hG), h2⟩, h.inj, h.tv, h.ctx, h.be, h.av⟩
theorem Pk9.kb {w0 : World} {P : BP} {bx ba bn r e : Nat} {k : Int} {all : List Int} {ts : Nat → Nat} {av tv : Value} {W : World} (h : Pk9 w0 P bx ba bn all ts av tv r e k W) : 0 ≤ k ∧ k ≤ 4611686018427387904 := by
  obtain ⟨s, q, d, T, hs, b, fs, h1, rfl, _⟩ := h.at_
  have hi : BI P r s W := h1.inv
  have h1 := hi.ar.k0
  have h2 := hi.room
  exact ⟨h1, by omega⟩
set_option maxHeartbeats 4000000 in
theorem many9 (az : Nat → Nat) (has : ∀ k, az k < 256) (dd : Nat) (hdd : dd < 256) (DA : Option Addr) (nd dcp : Nat) (zs : List Int) (PA : Option Addr) (np pcp : Nat) (xs : List Int) (w : World) (hd : Row w .i64 DA nd zs) (hp : Row w .i64 PA np xs) :
    Calls Try.prog 8 #[.agg #[.int .u8 (az 0 : Nat), .int .u8 (az 1 : Nat), .int .u8 (az 2 : Nat), .int .u8 (az 3 : Nat)], .slice DA nd dcp, .int .u8 dd, .slice PA np pcp] w fun e w' => e = .returned (.bool true) ∧ Below w.heap.size w w' := by
  by_cases h4 : 400 < np ∨ 400 < nd
  · have b0 : Below w.heap.size w (w.alloc (.cells #[.int .u8 (az 0 : Nat), .int .u8 (az 1 : Nat), .int .u8 (az 2 : Nat), .int .u8 (az 3 : Nat)] 77)) := (Below.refl _ _).alloc (Nat.le_refl _) _
    clear hd hp
    by_cases h5 : 400 < np
    · have h4' : (400 : Int) < np := by omega
      clear h4 h5
      go_enter Try.func8, Try.ntmps8
      go_wp2_with fail
      refine (speaks9_any _).mono ?_
      rintro e w1 ⟨rfl, b1⟩
      go_wp2_with fail
      refine (speaks9_any _).mono ?_
      rintro e w2 ⟨rfl, b2⟩
      go_wp2
      go_ret
      exact ⟨rfl, (b0.trans (b1.mono b0.size)).trans (b2.mono (b0.trans (b1.mono b0.size)).size)⟩
    · have h4' : ¬ (400 : Int) < np := by omega
      have h6' : (400 : Int) < nd := by omega
      clear h4 h5
      go_enter Try.func8, Try.ntmps8
      go_wp2_with fail
      refine (speaks9_any _).mono ?_
      rintro e w1 ⟨rfl, b1⟩
      go_wp2_with fail
      refine (speaks9_any _).mono ?_
      rintro e w2 ⟨rfl, b2⟩
      go_wp2
      go_ret
      exact ⟨rfl, (b0.trans (b1.mono b0.size)).trans (b2.mono (b0.trans (b1.mono b0.size)).size)⟩
  · have h4' : ¬ ((400 : Int) < np) := by omega
    have h6' : ¬ ((400 : Int) < nd) := by omega
    · have HPD := Lib.hid (And.intro hp hd)
      clear hp hd
      obtain ⟨mz, hmz⟩ : ∃ mz : Nat → Nat, (fun k => az k % 6) = mz := ⟨_, rfl⟩
      have HMZ : Hid ((fun k => az k % 6) = mz ∧ ∀ k, mz k ≤ 5) := Lib.hid ⟨hmz, fun k => by rw [← hmz]; show az k % 6 ≤ 5; omega⟩
      clear hmz
      obtain ⟨D, hD⟩ : ∃ D, dd % 9 = D := ⟨_, rfl⟩
      have hmodd : ((dd : Int).tmod 9) = (D : Int) := by rw [← hD]; rw [Int.tmod_eq_emod_of_nonneg (by omega)]; omega
      have hwd : IntKind.i64.wrap (dd : Int) = dd := by rw [IntKind.wrap_i64]; omega
      have hwD : IntKind.i64.wrap (D : Int) = D := by rw [IntKind.wrap_i64]; omega
      have hwD1 : IntKind.i64.wrap (1 + (D : Int)) = 1 + D := by rw [IntKind.wrap_i64]; omega
      have HDm := Lib.hid (And.intro hmodd (And.intro hwd (And.intro hwD hwD1)))
      have hD10 : D < 9 := by omega
      clear hmodd hwd hwD hD hwD1
      go_enter Try.func8, Try.ntmps8
      obtain ⟨w0, hw0⟩ : ∃ w0, w.alloc (.cells #[.int .u8 (az 0 : Nat), .int .u8 (az 1 : Nat), .int .u8 (az 2 : Nat), .int .u8 (az 3 : Nat)] 77) = w0 := ⟨_, rfl⟩
      have k00 : Turns [] w w0 := by rw [← hw0]; exact (Turns.refl _ _).alloc _
      have la4 : Lies w0 w.heap.size 77 #[.int .u8 (az 0 : Nat), .int .u8 (az 1 : Nat), .int .u8 (az 2 : Nat), .int .u8 (az 3 : Nat)] := by rw [← hw0]; exact Lies.new _ _ _
      have b0 : Below w.heap.size w w0 := k00.below (by simp) (Nat.le_refl _)
      go_upto_region 1 with (fail)
      try rw [hw0]
      clear hw0 k00
      go_wp2_with fail
      refine (speaks9_any _).mono ?_
      rintro e w1 ⟨rfl, b1⟩
      have la4 := la4.below b1 la4.lt
      have b01 : Below w.heap.size w w1 := b0.trans (b1.mono b0.size)
      have lt4 : w.heap.size < w1.heap.size := la4.lt
      clear b0 b1
      go_wp2_with fail
      refine (show Calls Try.prog 28 #[.int .i64 20] _ _ from fresh9_any 20 (by omega) w1).mono ?_
      rintro e w2 ⟨p, c, bn, ba, rfl, ha, hb, hc, hp, hbn, hba, la, ln⟩
      have hmf := hmf_run
      have y2 := fun (a : Addr) (f : FuncId) (c : Array Value) (w : World) => run_store Try.prog w a (.func (.func f) #[] c) .plain rfl
      have la4 := la4.below hb la4.lt
      have hb1 := hb.size
      have z1 := ha.head.lt
      obtain ⟨h1, hh⟩ : ∃ h1, w2.heap.size = h1 := ⟨_, rfl⟩
      obtain ⟨W3, hW3⟩ : ∃ W3, (w2.alloc (.cells (bxC p 0 1 46 47 #[] #[ptr ba, ptr bn]) 62)).alloc (.cells #[.slice none 0 0, .slice none 0 0] 72) = W3 := ⟨_, rfl⟩
      have k3 : Turns [] w2 W3 := by rw [← hW3]; exact ((Turns.refl _ _).alloc _).alloc _
      have lb : Lies W3 h1 62 (bxC p 0 1 46 47 #[] #[ptr ba, ptr bn]) := by rw [← hW3, ← hh]; exact (Lies.new _ _ _).alloc _
      have lo : Lies W3 (h1 + 1) 72 #[.slice none 0 0, .slice none 0 0] := by rw [← hW3]; exact Lies.new_of _ _ (by simp [hh])
      have z3 : W3.heap.size = h1 + 1 + 1 := by rw [← hW3]; simp [hh]
      obtain ⟨hG, hI, hX, hR0⟩ := begin9 (W := W3) (B := w1.heap.size) (r := 3600) (ex := []) (ha.turn k3 (by simp) (by simp)) (by omega) (bok_zero 20) lo lb (la.turn k3 (by simp)) (ln.turn k3 (by simp)) (by omega) hc (by omega) (by omega) (by omega) (by simp) (by simp)
      have la4 := la4.turn k3 (by simp)
      have b3 : Below w1.heap.size w1 W3 := hb.trans (k3.below (by simp) hb1)
      obtain ⟨P, hP⟩ : ∃ P, (⟨p, c, w1.heap.size, 20, h1 + 1, []⟩ : BP) = P := ⟨_, rfl⟩
      have gp : P.n = 20 ∧ P.B = w1.heap.size ∧ P.ob = h1 + 1 ∧ P.p = p ∧ P.ex = [] := by rw [← hP]; exact ⟨rfl, rfl, rfl, rfl, rfl⟩
      rw [hP] at hG hI hX hR0
      obtain ⟨s0, hs0⟩ : ∃ s0, (⟨List.replicate (2 + 2 * 20) 0, 0, [], []⟩ : BSt) = s0 := ⟨_, rfl⟩
      have hI : BI P 3600 s0 W3 := by rw [← hs0]; exact hI
      have hM := bm_ok P hG
      have hA : bxP P #[ptr ba, ptr bn] = bxV p 0 1 46 47 #[] #[ptr ba, ptr bn] := by rw [← gp.2.2.2.1]
      have hDr : (BM P).Makes 3600 (startD (D)) 31 #[bxP P #[ptr ba, ptr bn], .int .i64 ((D : Nat) : Int), ptr (h1 + 1)] W3 := by
        have := drains_g P hG (dcap := #[ptr ba, ptr bn]) 3600 (D) (by omega) W3 (hM.okw _ _ _ hI)
        rw [gp.2.2.1] at this
        exact this
      rw [hA] at hDr
      have eD : ((D : Nat) : Int) = (D : Int) := by omega
      rw [eD] at hDr
      obtain ⟨c0, c1, c2, c3, c4, c5, c6⟩ := hX.cells
      rw [gp.2.2.2.1] at c0 c4
      have HI := Lib.hid (And.intro hI (And.intro hX (And.intro gp hR0)))
      have HS0 := Lib.hid hs0
      have HA := Lib.hid hA
      obtain ⟨hmodd, hwd, hwD, hwD1⟩ := HDm.out
      clear hI hX ha la ln lb lo hP hs0 hA gp hR0 k3 hb eD
      unfold Gm.Makes at hDr
      go_upto_region 7 with (fail)
      try rw [hh]
      try rw [hW3]
      clear hW3
      go_wp2_with fail
      refine (show Calls Try.prog 31 #[bxV p 0 1 46 47 #[] #[ptr ba, ptr bn], .int .i64 ((D : Int)), ptr (h1 + 1)] _ _ from hDr).mono ?_
      rintro e w4 ⟨v0, rfl, hc0, t4⟩
      clear c0 c1 c2 c3 c4 c5 c6 hmodd hwd hwD hwD1 y2 hmf hDr
      have hn := newtask_any v0 hc0.is w4
      go_wp2_with fail
      refine hn.mono ?_
      rintro e w5 ⟨rfl, hw5⟩
      obtain ⟨hI, hX, gp, hR0⟩ := HI.out
      have hI4 := hI.turns t4 (by simp)
      have k45 : Turns [] w4 w5 := by rw [← hw5]; exact (Turns.refl _ _).alloc _
      have z5 : w5.heap.size = w4.heap.size + 1 := by rw [← hw5]; simp
      obtain ⟨W6, hW6⟩ : ∃ W6, w5.alloc (.cells #[ptr w4.heap.size] 35) = W6 := ⟨_, rfl⟩
      have k56 : Turns [] w5 W6 := by rw [← hW6]; exact (Turns.refl _ _).alloc _
      have t36 := (t4.trans k45).trans k56
      have la4 := la4.turn t36 (by simp)
      have bP3 : P.B ≤ W3.heap.size := (hM.okw _ _ _ hI).base
      have hX4 := hX.turns hG hI t4 (by simp) (by simp)
      have hS := Mm9.first (D := D) (m := mz) (w0 := w1) hG gp.2.2.2.2 hI4 hX4 ((b3.mono (by rw [gp.2.1]; exact Nat.le_refl _)).trans (t4.below (by simp) bP3)) (fun b q => hR0 b (BI.rows_turns hG hI t4 (by simp) q)) hc0
      rw [hw5, hW6] at hS
      clear hn hw5 hc0 hI hX hR0 hI4 hX4 k45 t4 k56 t36 b3 z1 bP3 hM
      obtain ⟨g5, hg5⟩ : ∃ g5, w4.heap.size + 1 = g5 := ⟨_, rfl⟩
      rw [hg5] at hS
      have HP := Lib.hid gp
      clear gp
      go_upto_region 9 with (fail)
      try rw [hg5]
      try rw [hW6]
      clear hW6 hg5 z5
      obtain ⟨q0, q1, q2, q3⟩ : W6.cell? ⟨w.heap.size, 0, none⟩ = some (.int .u8 (az 0 : Nat)) ∧ W6.cell? ⟨w.heap.size, 1, none⟩ = some (.int .u8 (az 1 : Nat)) ∧ W6.cell? ⟨w.heap.size, 2, none⟩ = some (.int .u8 (az 2 : Nat)) ∧ W6.cell? ⟨w.heap.size, 3, none⟩ = some (.int .u8 (az 3 : Nat)) := ⟨la4.cell 0, la4.cell 1, la4.cell 2, la4.cell 3⟩
      clear la4
      go_wp2_with fail
      clear q0 q1 q2 q3
      go_loopw [12, 13, 14, 15, 16, 17, 61] (fun tv av _ _ _ _ i W => ∃ t : Nat, i = .int .i64 (t : Int) ∧ t ≤ 4 ∧ Mm9 w1 P h1 ba bn D mz s0 t av (allF mz t) tv W) (fun _ _ _ _ _ _ i _ => 4 - (intOf i).toNat)
      case atStart => exact ⟨0, rfl, by omega, hS⟩
      case round =>
        clear hS
        obtain ⟨t, rfl, ht, hS⟩ := hrel
        generalize wr = W at *
        generalize u12 = tv at *
        generalize u13 = av at *
        by_cases ht4 : t < 4
        · have hidx := index_four az t ht4
          have ht4' : (t : Int) < 4 := by omega
          obtain ⟨mm, hmm⟩ : ∃ mm, az t % 6 = mm := ⟨_, rfl⟩
          have hat := has t
          have hmod6 : (((az t : Nat) : Int).tmod 6) = (mm : Int) := by rw [← hmm]; rw [Int.tmod_eq_emod_of_nonneg (by omega)]; omega
          have hwa : IntKind.i64.wrap ((az t : Nat) : Int) = (az t : Nat) := by rw [IntKind.wrap_i64]; omega
          have hwm : IntKind.i64.wrap (mm : Int) = mm := by rw [IntKind.wrap_i64]; omega
          have hw5t : IntKind.i64.wrap (5 * (t : Int)) = 5 * t := by rw [IntKind.wrap_i64]; omega
          have hm5 : mm < 6 := by omega
          have HMM : Hid (mz t = mm) := Lib.hid (by rw [← HMZ.out.1]; exact hmm)
          clear hmm
          have hO : Out W (.slice none 0 0) (upB (5 * t) 0) W := ⟨IRow.nil _ _, Below.refl _ _⟩
          generalize az t = at' at *
          go_wp2_with fail
          clear hmod6 hidx hat hwa
          go_loopw [16, 17, 68] (fun v _ k X => ∃ q : Nat, k = .int .i64 (q : Int) ∧ q ≤ mm ∧ Out W v (upB (5 * t) q) X) (fun _ _ k _ => mm - (intOf k).toNat)
          case atStart => exact ⟨0, rfl, Nat.zero_le _, hO⟩
          case round =>
            clear hO
            obtain ⟨q, rfl, hq, hO⟩ := hrel
            generalize wr = X at *
            generalize u16 = mv at *
            by_cases hqm : q < mm
            · have hl := upB_length (5 * t) q
              have F := fun v' w' (h : Out W v' (upB (5 * t) q ++ [(5 * (t : Int) + q : Int)]) w') => (show Out W v' (upB (5 * t) (q + 1)) w' from by rw [upB_succ]; exact h)
              have HF := Lib.hid F
              clear F
              have hwq : IntKind.i64.wrap (5 * (t : Int) + q) = 5 * t + q := by rw [IntKind.wrap_i64]; omega
              generalize upB (5 * t) q = ys at *
              go_wp2_with (first | (at_builtin; refine wpList_out hO (n := (5 * (t : Int) + q : Int)) (WalkArith.wf_i64 (by omega)) (by omega) (by rfl) (.tmp 71) (.tmp 76) rfl rfl rfl ?_; intro v3 w3 hO3) | fail)
              go_roundw
              case rel => exact ⟨q + 1, by go_num, by omega, HF.out _ _ hO3⟩
              case measure => simp [intOf]; omega
            · obtain rfl : q = mm := by omega
              have tX : Turns [] W X := Turns.of_below hO.be (Nat.le_refl _)
              have hm6 := HMZ.out.2
              have hmmt : mz t = q := HMM.out
              have gp := HP.out
              have hSX := hS.turns hG tX
              have hBX : P.B ≤ X.heap.size := ((bm_ok P hG).okw _ _ _ hSX.si).base
              have hlen : (allF mz t).length + (upB (5 * t) q).length ≤ 1000 := by
                have h1 := allF_len hm6 t
                have h2 := upB_length (5 * t) q
                omega
              have HAR := Lib.hid hSX.all
              have HMR := Lib.hid hO.row
              have HW := Lib.hid (And.intro hS (And.intro hSX tX))
              clear hS hSX hO tX hm6 gp hmmt
              go_upto_region 19 with (first | (at_builtin; refine wpList_more (v := av) (u := mv) rfl (.tmp 79) (.tmp 80) rfl rfl rfl HAR.out HMR.out hlen hBX ?_; intro av' X2 ra ta ga) | fail)
              obtain ⟨hS, hSX, tX⟩ := HW.out
              have gp := HP.out
              have hmmt : mz t = q := HMM.out
              have eAll : allF mz t ++ upB (5 * t) q = allF mz (t + 1) := by rw [← hmmt]; rfl
              rw [eAll] at ra
              have hS2 := hSX.grow hG ta ra ga
              have hlo : ∀ g, mv.ownBlock = some g → W.heap.size ≤ g ∧ g < X.heap.size := HMR.out.lt
              have hav : ∀ g, av.ownBlock = some g → g < W.heap.size := fun g hg => (hS.all.lt g hg).2
              have hr2 : IRow X2 W.heap.size mv (upB (5 * t) q) := HMR.out.kept fun g hg => ta.block g (hlo g hg).2 fun hm => by
                have h1 := hav g (by simpa using hm)
                have h2 := (hlo g hg).1
                omega
              have hne : ∀ g, mv.ownBlock = some g → av'.ownBlock ≠ some g := fun g hg e => by
                have h2 := hlo g hg
                rcases ga g e with h1 | h1
                · have := hav g h1; omega
                · omega
              have hpu := hS2.puts hG gp.1 ht4 HMZ.out.2 (v := mv) (B := W.heap.size) (by rw [hmmt]; exact hr2) hne
              rw [hmmt] at hpu
              obtain ⟨A1, cp1, hmv, hle1, hMk⟩ := hpu
              subst hmv
              obtain ⟨c0, c1, c2, c3, c4, c5, c6⟩ := hS2.ctx.cells
              rw [gp.2.2.2.1] at c0 c4
              rw [HA.out] at hMk
              obtain ⟨ts, hts⟩ := hS2.at_
              have htv := hts.tv
              have HS := Lib.hid (And.intro hS2 (And.intro hts hmmt))
              clear hS hSX tX hS2 hts gp hmmt ra ta ga hlo hav hr2 hne eAll hBX hlen HAR HMR
              unfold Gm.Makes at hMk
              have hMk := hMk X2 (Turns.refl _ _)
              go_wp2_with fail
              refine (show Calls Try.prog 30 #[bxV p 0 1 46 47 #[] #[ptr ba, ptr bn], .slice A1 q cp1, .nilFunc] _ _ from hMk).mono ?_
              rintro e w7 ⟨cv, rfl, hcv, t7⟩
              clear c0 c1 c2 c3 c4 c5 c6 hMk
              have hn := newtask_any cv hcv.is w7
              go_wp2_with fail
              refine hn.mono ?_
              rintro e w8 ⟨rfl, hw8⟩
              obtain ⟨hS, hts, hmmt⟩ := HS.out
              have k78 : Turns [] w7 w8 := by rw [← hw8]; exact (Turns.refl _ _).alloc _
              have htv8 := (hts.tv.turns t7 (by simp)).turns k78 (by simp)
              have F := Lib.hid (fun tv' W4 (r1 : VRow W4 P.B 35 tv' ((List.range (t + 1)).map (fun k => ptr (ts k)) ++ [ptr w7.heap.size])) (r2 : Turns tv.ownBlock.toList w8 W4) => Mm9.next (tv' := tv') (W4 := W4) (cv := cv) hG hS t7 (by rw [hmmt]; exact hcv) hts r1 (by rw [hw8]; exact r2))
              have hvl : ((List.range (t + 1)).map fun i => ptr (ts i)).length = t + 1 := by simp
              have HVL := Lib.hid hvl
              have hB8 : P.B ≤ w8.heap.size := by
                have h1 := ((bm_ok P hG).okw _ _ _ hS.si).base
                have h2 := t7.size
                have h3 := k78.size
                have h1 : P.B ≤ X2.heap.size := h1
                omega
              clear hS hts hn hw8 hvl hcv htv t7 k78 hmmt
              generalize hvals : ((List.range (t + 1)).map fun i => ptr (ts i)) = vals at *
              clear hvals
              go_wp2_with (first | (at_builtin; refine wpList_vrow (T := 48) (E := 35) (z := .pointer none) (u := ptr w7.heap.size) (nb := 8) Try.underlying48 (by kernel_rfl) (by omega) rfl rfl htv8 hB8 (by rw [HVL.out]; omega) (by rfl) (.tmp 82) (.tmp 87) rfl rfl rfl ?_; intro tv' W9 r1 r2) | fail)
              go_roundw
              case rel => exact ⟨t + 1, by go_num, by omega, F.out _ _ r1 r2⟩
              case measure => simp [intOf]; omega
        · obtain rfl : t = 4 := by omega
          obtain ⟨ts, hts⟩ := hS.done HP.out.2.2.2.2
          have hgb0 := gbF (D := D) (m := mz) HMZ.out.2 0 4 (Nat.le_refl _)
          rw [HS0.out] at hgb0
          have hfd : FewD (qsF D mz) s0 (hsF mz) [] [] := qsF_few (by omega)
          have hPk : Pk9 w1 P h1 ba bn (allF mz 4) ts av tv 3600 0 s0.k W := ⟨⟨s0, qsF D mz, fun _ => 0, 0, hsF mz, [], [], hts.all hS.si, rfl, hgb0, hfd, by omega, fun i _ => Nat.le_refl _⟩, hts.inj, hts.tv, hS.ctx, hS.be, MR.of_irow hS.si hS.all hS.nor⟩
          have HAL : Hid ((allF mz 4).length ≤ 20 ∧ ∀ x, x ∈ allF mz 4 → 0 ≤ x ∧ x < 20) := Lib.hid ⟨by have := allF_len HMZ.out.2 4; omega, fun x hx => by have := allF_mem HMZ.out.2 hx; omega⟩
          clear hS hts hgb0 hfd
          generalize allF mz 4 = al at *
          generalize s0.k = k0 at *
          rw [show ((4 : Nat) : Int) = 4 from rfl]
          go_wp2_with fail
          go_loopw [18, 19, 20, 92] (fun _ _ _ i W => ∃ (m : Nat) (k : Int), i = .int .i64 (m : Int) ∧ m ≤ np ∧ Pk9 w1 P h1 ba bn al ts av tv (3600 - 2 * m) m k W) (fun _ _ _ i _ => np - (intOf i).toNat)
          case atStart => exact ⟨0, k0, rfl, by omega, hPk⟩
          case round =>
            clear hPk
            obtain ⟨m, k, rfl, hm, hPk⟩ := hrel
            generalize wr = Y at *
            by_cases hmn : m < np
            · have hmn' : (m : Int) < np := by omega
              have bY : Below w.heap.size w Y := b01.trans (hPk.be.mono (by rw [HP.out.2.1]; omega))
              have hpl := HPD.out.1.len
              obtain ⟨pa, rfl, hpb, hpc⟩ := (HPD.out.1.keep (Nat.le_refl _) bY).at_ (by omega)
              have hpm := hpc m hmn
              have hyw : (Lit.int .i64 (xs.getD m 0)).wf = true := HPD.out.1.wf _ (by
                rw [List.getD_eq_getElem?_getD, List.getElem?_eq_getElem (by omega)]
                exact List.getElem_mem _)
              clear hpc hpb hpl
              generalize xs.getD m 0 = y at *
              obtain ⟨r, hr⟩ : ∃ r, 3600 - 2 * (m + 1) = r := ⟨_, rfl⟩
              rw [show 3600 - 2 * m = r + 1 + 1 by omega] at hPk
              have HRR := Lib.hid hr
              obtain ⟨bb, hbb⟩ : ∃ bb : Bool, (decide (m < nd) && (decide (0 ≤ zs.getD m 0) && decide (zs.getD m 0 < 20))) = bb := ⟨_, rfl⟩
              have HBB := Lib.hid hbb
              have HY := Lib.hid (And.intro hPk bY)
              clear hr hbb hPk bY
              go_upto_region 24 with (fail)
              go_cut [114] (fun u wc => u = .bool bb ∧ wc = Y)
              case first =>
                clear hpm
                by_cases hmd : m < nd
                · obtain ⟨da, rfl, hdb, hdc⟩ := (HPD.out.2.keep (Nat.le_refl _) HY.out.2).at_ (by omega)
                  have hdm := hdc m hmd
                  have hbb := HBB.out
                  clear hdc hdb
                  generalize zs.getD m 0 = z at *
                  have hmd' : (m : Int) < nd := by omega
                  rcases (by omega : z < 0 ∨ 0 ≤ z ∧ (20 ≤ z ∨ z < 20)) with hz | ⟨hz, hz' | hz'⟩
                  · have e : bb = false := by rw [← hbb, decide_eq_false (show ¬ (0 ≤ z) by omega)]; simp
                    clear hbb HBB
                    subst e
                    go_wp2_with fail
                    go_meet
                    case rel => exact ⟨rfl, rfl⟩
                  · have e : bb = false := by rw [← hbb, decide_eq_false (show ¬ (z < 20) by omega)]; simp
                    clear hbb HBB
                    subst e
                    go_wp2_with fail
                    go_meet
                    case rel => exact ⟨by simp; omega, rfl⟩
                  · have e : bb = true := by rw [← hbb, decide_eq_true hmd, decide_eq_true hz, decide_eq_true hz']; rfl
                    clear hbb HBB
                    subst e
                    go_wp2_with fail
                    go_meet
                    case rel => exact ⟨rfl, rfl⟩
                · have hmd' : ¬ (m : Int) < nd := by omega
                  have e : bb = false := by rw [← HBB.out, decide_eq_false hmd]; rfl
                  clear HBB
                  subst e
                  go_wp2_with fail
                  go_meet
                  case rel => exact ⟨rfl, rfl⟩
              case rest =>
                obtain ⟨rfl, rfl⟩ := hcut
                clear hpm
                obtain ⟨hPk, bY⟩ := HY.out
                go_upto_if 114 with (fail)
                go_cut [] (fun wc => ∃ k', Pk9 w1 P h1 ba bn al ts av tv (r + 1) m k' wc)
                case first =>
                  cases bb with
                  | false =>
                    have HX := Lib.hid (hPk.less hG)
                    clear hPk
                    go_wp2_with fail
                    go_meet
                    case rel => exact ⟨k, HX.out⟩
                  | true =>
                    have hbb := HBB.out
                    have hmd : m < nd := by
                      by_cases h : m < nd
                      · exact h
                      · rw [decide_eq_false h] at hbb; simp at hbb
                    obtain ⟨da, rfl, hdb, hdc⟩ := (HPD.out.2.keep (Nat.le_refl _) bY).at_ (by omega)
                    have hdm := hdc m hmd
                    clear hdc
                    generalize zs.getD m 0 = z at *
                    have hz : 0 ≤ z ∧ z < 20 := by
                      simp at hbb
                      exact hbb.2
                    obtain ⟨x, rfl⟩ := Int.eq_ofNat_of_zero_le hz.1
                    have hx20 : x < 20 := by omega
                    have hdd := (hPk.turns hG ((Turns.refl [] wc).drew)).dies hG HP.out.1 hx20
                    rw [HP.out.2.2.2.1] at hdd
                    have c0 := hPk.ctx.cells.1
                    rw [HP.out.2.2.2.1] at c0
                    have e22 : IntKind.i64.wrap (22 + (x : Int)) = 22 + (x : Int) := IntWalk.i64_in _ (by omega)
                    have hmd' : (m : Int) < nd := by omega
                    have HDD := Lib.hid hdd
                    clear hPk hbb HBB hz bY hdb hdd
                    go_upto_region 25 with (fail)
                    go_still_tail 7, (by kernel_rfl)
                    change wpList _ _ _ _ _ wc.drew
                    go_wp2_with fail
                    refine HDD.out.mono ?_
                    rintro e Y7 ⟨⟨v7, rfl⟩, hk7⟩
                    have HX := Lib.hid hk7
                    clear hk7
                    go_wp2_with fail
                    go_meet
                    case rel => exact HX.out
                case rest =>
                  obtain ⟨k1, hPk1⟩ := hcut
                  clear hPk bY
                  have hcnt := hPk1.count
                  rw [HP.out.2.2.2.1] at hcnt
                  have c0 := hPk1.ctx.cells.1
                  rw [HP.out.2.2.2.1] at c0
                  have hkb := hPk1.kb
                  have hpk := hPk1.pick hG HP.out.1 (by omega) hyw
                  clear hPk1 HBB hyw
                  go_wp2_with fail
                  refine hcnt.mono ?_
                  rintro e Z1 ⟨rfl, rfl⟩
                  clear hcnt
                  go_wp2_with fail
                  refine hpk.mono ?_
                  rintro e Z2 ⟨⟨v, rfl⟩, k2, hk2, hPk2⟩
                  clear hpk c0
                  have hcnt := hPk2.count
                  rw [HP.out.2.2.2.1] at hcnt
                  have c0 := hPk2.ctx.cells.1
                  rw [HP.out.2.2.2.1] at c0
                  have hwk : IntKind.i64.wrap (k1 + 1) = k1 + 1 := IntWalk.i64_in _ (by omega)
                  have hle : ¬ (k1 + 1 < k2) := by omega
                  have HX := Lib.hid hPk2
                  clear hPk2
                  go_wp2_with fail
                  refine hcnt.mono ?_
                  rintro e Z3 ⟨rfl, rfl⟩
                  clear hcnt
                  go_wp2
                  go_roundw
                  case rel => exact ⟨m + 1, k2, by go_num, by omega, by rw [HRR.out]; exact HX.out⟩
                  case measure => simp [intOf]; omega
            · obtain rfl : m = np := by omega
              have hF := hPk.fin hG (by omega) (by omega)
              clear hPk
              obtain ⟨TA, tcp, htv, _, _⟩ := hF.fn.tv.slice
              rw [show ((List.range 5).map fun k => ptr (ts k)).length = 5 by simp] at htv
              subst htv
              go_wp2_with fail
              go_loopw [22, 139] (fun _ i W => ∃ k : Nat, i = .int .i64 (k : Int) ∧ k ≤ 5 ∧ Fm9 w1 P h1 ba bn al ts av (.slice TA 5 tcp) k W) (fun _ i _ => 5 - (intOf i).toNat)
              case atStart => exact ⟨0, rfl, by omega, hF⟩
              case round =>
                clear hF
                obtain ⟨k, rfl, hk, hF⟩ := hrel
                generalize wr = Z at *
                by_cases hk5 : k < 5
                · obtain ⟨_, g, hg, hcell⟩ := hF.fn.cell rfl
                  subst hg
                  have hck := hcell k hk5
                  have hk5' : (k : Int) < 5 := by omega
                  have hnx := hF.next hG HP.out.1 HAL.out.1 hk5
                  clear hF hcell
                  go_wp2_with fail
                  refine hnx.mono ?_
                  rintro e Z2 ⟨rfl, hF2⟩
                  have HX := Lib.hid hF2
                  clear hF2 hnx
                  go_wp2
                  go_roundw
                  case rel => exact ⟨k + 1, by go_num, by omega, HX.out⟩
                  case measure => simp [intOf]; omega
                · obtain rfl : k = 5 := by omega
                  obtain ⟨s, b, f, hE⟩ := hF.ends hG HAL.out.1
                  clear hF
                  have hL := BI.free hG hE.si (by rw [HP.out.1]; omega)
                  rw [hE.ef, HP.out.2.2.2.1] at hL
                  obtain ⟨_, _, _, _, c4, c5, c6⟩ := hE.ctx.cells
                  rw [HP.out.2.2.2.1] at c4
                  have HE := Lib.hid hE
                  clear hE
                  go_wp2_with fail
                  refine hL.mono ?_
                  rintro e V ⟨fv, rfl, rf, bf⟩
                  clear hL c4 c5 c6
                  have hE := HE.out.turns hG (Turns.of_below bf (Nat.le_refl _))
                  obtain ⟨FA, fcp, rfl, hrf⟩ := rf.row
                  have hLb : f.length ≤ 20 := Nat.le_trans (count_len f (m := al) fun a => by have := hE.cnt a; omega) HAL.out.1
                  have HRF := Lib.hid hrf
                  clear HE bf rf hrf
                  rw [show ((5 : Nat) : Int) = 5 from rfl]
                  obtain ⟨Lf, hLf⟩ : ∃ Lf, f.length = Lf := ⟨_, rfl⟩
                  rw [hLf] at HRF hLb
                  try rw [hLf]
                  have HLf := Lib.hid hLf
                  clear hLf
                  go_wp2_with fail
                  go_loopw [25, 152] (fun _ i W => ∃ q : Nat, i = .int .i64 (q : Int) ∧ q ≤ Lf ∧ Ed9 w1 P h1 ba bn al av s b f W ∧ Below V.heap.size V W) (fun _ i _ => Lf - (intOf i).toNat)
                  case atStart => exact ⟨0, rfl, Nat.zero_le _, hE, Below.refl _ _⟩
                  case round =>
                    clear hE
                    obtain ⟨q, rfl, hq, hE, hbV⟩ := hrel
                    generalize wr = U at *
                    by_cases hqL : q < Lf
                    · have hqL' : (q : Int) < Lf := by omega
                      have hfl : f.length = Lf := HLf.out
                      obtain ⟨fa, rfl, _, hfc⟩ := (HRF.out.keep (Nat.le_refl _) hbV).at_ (by omega)
                      have hfq := hfc q hqL
                      have hmem : f.getD q 0 ∈ f := by
                        rw [List.getD_eq_getElem?_getD, List.getElem?_eq_getElem (by omega)]
                        exact List.getElem_mem _
                      obtain ⟨d1, d2, d3⟩ := hE.dead _ hmem
                      have hall := all_any P.p P.c s.l s.k U hE.si.ar
                      have hsl : s.l.length = 42 := by have := hE.si.ok.len; rw [HP.out.1] at this; omega
                      have c0 := hE.ctx.cells.1
                      rw [HP.out.2.2.2.1] at c0 hall
                      have HE := Lib.hid (And.intro hE hbV)
                      clear hE hbV hfc hmem hfl
                      generalize f.getD q 0 = y at *
                      obtain ⟨x, rfl⟩ := Int.eq_ofNat_of_zero_le d1
                      have hx20 : x < 20 := by omega
                      have d1' : ¬ (x : Int) < 0 := by omega
                      have d2' : ¬ (20 : Int) ≤ x := by omega
                      have e22 : IntKind.i64.wrap (22 + (x : Int)) = 22 + (x : Int) := IntWalk.i64_in _ (by omega)
                      rw [hsl] at hall
                      have HSL := Lib.hid hsl
                      have ht22 : (22 + (x : Int)).toNat = 22 + x := by omega
                      clear d1 d2 hsl
                      go_wp2_with fail
                      refine hall.mono ?_
                      rintro e U2 ⟨rfl, tl1, tl2, tl3⟩
                      have hcx : U2.cell? ⟨U.heap.size, 22 + x, none⟩ = some (.int .u64 1) := by
                        have h2 := nums_at (l := s.l) (i := 22 + x) (by rw [HSL.out]; omega)
                        rw [tl1.cell (22 + x), h2, show ((22 + x : Nat) : Int) = (x : Int) + 22 by omega, d3]
                      have HX := Lib.hid (And.intro (HE.out.1.turns hG (Turns.of_below tl2 (Nat.le_refl _))) (HE.out.2.trans (tl2.mono HE.out.2.size)))
                      clear hall tl1 tl2 tl3 hfq c0 d3
                      go_wp2
                      go_roundw
                      case rel => exact ⟨q + 1, by go_num, by omega, HX.out.1, HX.out.2⟩
                      case measure => simp [intOf]; omega
                    · obtain rfl : q = Lf := by omega
                      obtain ⟨v, u, hl, hv, hu, _⟩ := hE.si.ow
                      have hig := hE.si.hg
                      rw [HP.out.2.2.1] at hl
                      have hrg : IRow U P.B v s.got := ⟨hv, fun x hx => by have := hig x hx; unfold Ix at this; exact WalkArith.wf_i64 (by omega)⟩
                      have hlens : s.got.length + b.length + f.length ≤ 20 := by
                        have h9 := count_len (s.got ++ (b ++ f)) (m := al) (fun a => by have := hE.cnt a; rw [List.count_append, List.count_append]; omega)
                        rw [List.length_append, List.length_append] at h9
                        have := HAL.out.1
                        omega
                      obtain ⟨c0, c1, c2, c3, c4, c5, c6⟩ := hE.ctx.cells
                      rw [HP.out.2.2.2.1] at c0 c4
                      have lbx := hE.ctx.box.l.lt
                      have CK : ∀ X, Turns [] U X → X.cell? ⟨h1 + 1, 0, none⟩ = some v ∧ X.cell? ⟨h1, 0, none⟩ = some (ptr p) ∧ X.cell? ⟨h1, 1, none⟩ = some (.int .i64 0) ∧ X.cell? ⟨h1, 2, none⟩ = some (.func (.func 46) #[] #[]) ∧ X.cell? ⟨h1, 3, none⟩ = some (.func (.func 47) #[] #[ptr ba, ptr bn]) ∧ X.cell? ⟨h1, 4, none⟩ = some (ptr p) ∧ X.cell? ⟨h1, 5, none⟩ = some (.int .i64 1) ∧ X.cell? ⟨h1, 6, none⟩ = some (.func (.func 46) #[] #[]) := fun X t =>
                        ⟨(t.cell (p := ⟨h1 + 1, 0, none⟩) hl.lt (by simp)).trans (hl.cell 0), (t.cell (p := ⟨h1, 0, none⟩) lbx (by simp)).trans c0, (t.cell (p := ⟨h1, 1, none⟩) lbx (by simp)).trans c1, (t.cell (p := ⟨h1, 2, none⟩) lbx (by simp)).trans c2, (t.cell (p := ⟨h1, 3, none⟩) lbx (by simp)).trans c3, (t.cell (p := ⟨h1, 4, none⟩) lbx (by simp)).trans c4, (t.cell (p := ⟨h1, 5, none⟩) lbx (by simp)).trans c5, (t.cell (p := ⟨h1, 6, none⟩) lbx (by simp)).trans c6⟩
                      have hLs : ∀ X, Turns [] U X → Calls Try.prog 33 #[bxV p 0 1 46 47 #[] #[ptr ba, ptr bn]] X fun e w' => ∃ v, e = .returned v ∧ IRow w' X.heap.size v b ∧ Below X.heap.size X w' := fun X t => by
                        have h9 := BI.lists (dcap := #[ptr ba, ptr bn]) hG (hE.si.turns t (by simp)) (by rw [HP.out.1]; omega)
                        have h8 := hE.eb
                        rw [h8, HA.out] at h9
                        exact h9
                      obtain ⟨AA, ca, hae, _, har⟩ := hE.av.row
                      subst hae
                      have HCNT := Lib.hid (And.intro hE.cnt hE.one)
                      have bU : Below w.heap.size w U := b01.trans (hE.be.mono (by rw [HP.out.2.1]; omega))
                      have HU := Lib.hid (And.intro bU har)
                      have hFR : Row U .i64 FA q f := HRF.out.keep (Nat.le_refl _) hbV
                      have HFR := Lib.hid hFR
                      have HHL := Lib.hid (And.intro hl hlens)
                      clear hE hbV hig hv hu hl c0 c1 c2 c3 c4 c5 c6 lbx har bU hFR HRF
                      go_upto_region 44 with (fail)
                      go_cut [26] (fun tv' wc => Out U tv' (s.got ++ b ++ f) wc)
                      case first =>
                        have T0 : Turns [] U U.drew := (Turns.refl [] U).drew
                        refine wp_region_held_drew (S := fun X => X.cell? ⟨h1 + 1, 0, none⟩ = some v ∧ X.cell? ⟨h1, 0, none⟩ = some (ptr p) ∧ X.cell? ⟨h1, 1, none⟩ = some (.int .i64 0) ∧ X.cell? ⟨h1, 2, none⟩ = some (.func (.func 46) #[] #[]) ∧ X.cell? ⟨h1, 3, none⟩ = some (.func (.func 47) #[] #[ptr ba, ptr bn]) ∧ X.cell? ⟨h1, 4, none⟩ = some (ptr p) ∧ X.cell? ⟨h1, 5, none⟩ = some (.int .i64 1) ∧ X.cell? ⟨h1, 6, none⟩ = some (.func (.func 46) #[] #[])) (by kernel_rfl) (CK _ T0) (fun hHeld => ?_)
                        refine wpAnyH_take (i := 1) (oi := { dst := some 174, op := Go.Op.move (Go.Operand.tmp 11), type := 70, pos := "law.go:166", after := #[], guard := none }) (v := ?_) rfl (by kernel_rfl) (by kernel_rfl) (by kernel_rfl) (fun _ _ _ h => h) (Or.inl ⟨by rfl, ?_⟩) hHeld ?_
                        rotate_left
                        · intro w hSw; obtain ⟨hS0, hS1, hS2, hS3, hS4, hS5, hS6, hS7⟩ := hSw; go_simp; try with_reducible rfl
                        rotate_left
                        try simp only [Act.put, List.setIfInBounds_toArray, List.set_cons_zero, List.set_cons_succ]
                        refine wpAnyH_take (i := 2) (oi := { dst := some 175, op := Go.Op.nilCheck (Go.Operand.tmp 174), type := 0, pos := "law.go:166", after := #[{ on := 1, ground := Go.Ground.data }], guard := none }) (v := ?_) rfl (by kernel_rfl) (by kernel_rfl) (by kernel_rfl) (fun _ _ _ h => h) (Or.inl ⟨by rfl, ?_⟩) hHeld ?_
                        rotate_left
                        · intro w hSw; obtain ⟨hS0, hS1, hS2, hS3, hS4, hS5, hS6, hS7⟩ := hSw; go_simp; try with_reducible rfl
                        rotate_left
                        try simp only [Act.put, List.setIfInBounds_toArray, List.set_cons_zero, List.set_cons_succ]
                        refine wpAnyH_take (i := 3) (oi := { dst := some 176, op := Go.Op.fieldAddr 72 (Go.Operand.tmp 175) 0, type := 0, pos := "law.go:166", after := #[{ on := 2, ground := Go.Ground.data }], guard := none }) (v := ?_) rfl (by kernel_rfl) (by kernel_rfl) (by kernel_rfl) (fun _ _ _ h => h) (Or.inl ⟨by rfl, ?_⟩) hHeld ?_
                        rotate_left
                        · intro w hSw; obtain ⟨hS0, hS1, hS2, hS3, hS4, hS5, hS6, hS7⟩ := hSw; go_simp; try with_reducible rfl
                        rotate_left
                        try simp only [Act.put, List.setIfInBounds_toArray, List.set_cons_zero, List.set_cons_succ]
                        refine wpAnyH_take (i := 4) (oi := { dst := some 177, op := Go.Op.load 31 (Go.Operand.tmp 176), type := 31, pos := "law.go:166", after := #[{ on := 3, ground := Go.Ground.data }], guard := none }) (v := ?_) rfl (by kernel_rfl) (by kernel_rfl) (by kernel_rfl) (fun _ _ _ h => h) (Or.inl ⟨by rfl, ?_⟩) hHeld ?_
                        rotate_left
                        · intro w hSw; obtain ⟨hS0, hS1, hS2, hS3, hS4, hS5, hS6, hS7⟩ := hSw; go_simp; try with_reducible rfl
                        rotate_left
                        try simp only [Act.put, List.setIfInBounds_toArray, List.set_cons_zero, List.set_cons_succ]
                        refine wpAnyH_take (i := 6) (oi := { dst := some 179, op := Go.Op.load 62 (Go.Operand.tmp 9), type := 62, pos := "law.go:166", after := #[], guard := none }) (v := ?_) rfl (by kernel_rfl) (by kernel_rfl) (by kernel_rfl) (fun _ _ _ h => h) (Or.inl ⟨by rfl, ?_⟩) hHeld ?_
                        rotate_left
                        · intro w hSw; obtain ⟨hS0, hS1, hS2, hS3, hS4, hS5, hS6, hS7⟩ := hSw; go_simp; try with_reducible rfl
                        rotate_left
                        try simp only [Act.put, List.setIfInBounds_toArray, List.set_cons_zero, List.set_cons_succ]
                        refine wpAnyH_take (i := 9) (oi := { dst := some 182, op := Go.Op.move (Go.Operand.tmp 23), type := 31, pos := "law.go:166", after := #[], guard := none }) (v := ?_) rfl (by kernel_rfl) (by kernel_rfl) (by kernel_rfl) (fun _ _ _ h => h) (Or.inl ⟨by rfl, ?_⟩) hHeld ?_
                        rotate_left
                        · intro w hSw; obtain ⟨hS0, hS1, hS2, hS3, hS4, hS5, hS6, hS7⟩ := hSw; go_simp; try with_reducible rfl
                        rotate_left
                        try simp only [Act.put, List.setIfInBounds_toArray, List.set_cons_zero, List.set_cons_succ]
                        refine wpAnyH_ready (rs := [0]) (by kernel_rfl) (by simp) ?_
                        refine AllReadyH.cons (o := { dst := some 173, op := Go.Op.buildSlice 31 0 #[], type := 31, pos := "law.go:166", after := #[], guard := none }) rfl (fun K hK => ?_) AllReadyH.nil
                        go_simp
                        have k1 : Turns [] U (U.alloc (.cells #[] 3)).drew := T0.alloc _
                        have r0 : IRow (U.alloc (.cells #[] 3)).drew U.heap.size (.slice (some ⟨U.heap.size, 0, none⟩) 0 0) [] := IRow.lit U.drew (B := U.heap.size) [] #[] rfl (Nat.le_refl _) Ints.nil (by simp)
                        have hrg1 : IRow (U.alloc (.cells #[] 3)).drew P.B v s.got := hrg.kept fun g hg => k1.block g (hrg.lt g hg).2 (by simp)
                        refine hK.out _ _ (CK _ k1) (fun hHeld => ?_)
                        clear hK K
                        try simp only [Act.put, List.setIfInBounds_toArray, List.set_cons_zero, List.set_cons_succ]
                        generalize ((U.alloc (.cells #[] 3)).drew) = X1 at *
                        refine wpAnyH_ready (rs := [5]) (by kernel_rfl) (by simp) ?_
                        refine AllReadyH.cons (o := { dst := some 178, op := Go.Op.call { callee := Go.Callee.builtin Go.Builtin.append, args := #[Go.Operand.tmp 173, Go.Operand.tmp 177], argTypes := #[31, 31] }, type := 31, pos := "law.go:166", after := #[{ on := 0, ground := Go.Ground.data }, { on := 4, ground := Go.Ground.data }], guard := none }) rfl (fun K hK => ?_) AllReadyH.nil
                        refine step_more (v := .slice (some ⟨U.heap.size, 0, none⟩) 0 0) (u := v) (xs := []) (ys := s.got) (B := U.heap.size) (by rfl) _ _ (by rfl) (by rfl) (by rfl) r0 hrg1.row (by have := HHL.out.2; simp; omega) k1.size ?_
                        intro v1 X2 r1 t1 g1
                        have b2 : Below U.heap.size U X2 := (k1.below (by simp) (Nat.le_refl _)).trans (t1.below (fun g hg => by simp [Value.ownBlock] at hg; omega) k1.size)
                        have k2 : Turns [] U X2 := Turns.of_below b2 (Nat.le_refl _)
                        refine hK.out _ _ (CK _ k2) (fun hHeld => ?_)
                        clear hK K
                        try simp only [Act.put, List.setIfInBounds_toArray, List.set_cons_zero, List.set_cons_succ]
                        refine wpAnyH_ready (rs := [7]) (by kernel_rfl) (by simp) ?_
                        refine AllReadyH.cons (o := { dst := some 180, op := Go.Op.call { callee := Go.Callee.value (Go.Operand.func 33), args := #[Go.Operand.tmp 179], argTypes := #[62] }, type := 31, pos := "law.go:166", after := #[{ on := 6, ground := Go.Ground.data }, { on := 5, ground := Go.Ground.chain }], guard := none }) rfl (fun K hK => ?_) AllReadyH.nil
                        go_simp
                        refine (hLs X2 k2).mono ?_
                        rintro e X3 ⟨v2, rfl, r2, b3⟩
                        have r1' := r1.below b3 (Nat.le_refl _)
                        have b3' : Below U.heap.size U X3 := b2.trans (b3.mono b2.size)
                        have k3 : Turns [] U X3 := Turns.of_below b3' (Nat.le_refl _)
                        go_wp2_with fail
                        refine hK.out _ _ (CK _ k3) (fun hHeld => ?_)
                        clear hK K
                        try simp only [Act.put, List.setIfInBounds_toArray, List.set_cons_zero, List.set_cons_succ]
                        refine wpAnyH_ready (rs := [8]) (by kernel_rfl) (by simp) ?_
                        refine AllReadyH.cons (o := { dst := some 181, op := Go.Op.call { callee := Go.Callee.builtin Go.Builtin.append, args := #[Go.Operand.tmp 178, Go.Operand.tmp 180], argTypes := #[31, 31] }, type := 31, pos := "law.go:166", after := #[{ on := 5, ground := Go.Ground.data }, { on := 7, ground := Go.Ground.data }, { on := 7, ground := Go.Ground.chain }], guard := none }) rfl (fun K hK => ?_) AllReadyH.nil
                        refine step_more (v := v1) (u := v2) (xs := [] ++ s.got) (ys := b) (B := U.heap.size) (by rfl) _ _ (by rfl) (by rfl) (by rfl) r1' r2.row (by have := HHL.out.2; simp; omega) k3.size ?_
                        intro v3 X4 r3 t3 g3
                        have b4 : Below U.heap.size U X4 := b3'.trans (t3.below (fun g hg => (r1'.lt g (by simpa using hg)).1) k3.size)
                        have k4 : Turns [] U X4 := Turns.of_below b4 (Nat.le_refl _)
                        refine hK.out _ _ (CK _ k4) (fun hHeld => ?_)
                        clear hK K
                        try simp only [Act.put, List.setIfInBounds_toArray, List.set_cons_zero, List.set_cons_succ]
                        refine wpAnyH_ready (rs := [10]) (by kernel_rfl) (by simp) ?_
                        refine AllReadyH.cons (o := { dst := some 183, op := Go.Op.call { callee := Go.Callee.builtin Go.Builtin.append, args := #[Go.Operand.tmp 181, Go.Operand.tmp 182], argTypes := #[31, 31] }, type := 31, pos := "law.go:166", after := #[{ on := 8, ground := Go.Ground.data }, { on := 9, ground := Go.Ground.data }, { on := 8, ground := Go.Ground.chain }], guard := none }) rfl (fun K hK => ?_) AllReadyH.nil
                        refine step_more (v := v3) (u := .slice FA q fcp) (xs := [] ++ s.got ++ b) (ys := f) (B := U.heap.size) (by rfl) _ _ (by rfl) (by rfl) (by rfl) r3 ⟨FA, fcp, by rw [HLf.out], by rw [HLf.out]; exact HFR.out.keep (Nat.le_refl _) b4⟩ (by have := HHL.out.2; simp; omega) k4.size ?_
                        intro v5 X5 r5 t5 g5'
                        have b5 : Below U.heap.size U X5 := b4.trans (t5.below (fun g hg => (r3.lt g (by simpa using hg)).1) k4.size)
                        have k5 : Turns [] U X5 := Turns.of_below b5 (Nat.le_refl _)
                        refine hK.out _ _ (CK _ k5) (fun hHeld => ?_)
                        clear hK K
                        try simp only [Act.put, List.setIfInBounds_toArray, List.set_cons_zero, List.set_cons_succ]
                        refine wpAnyH_take (i := 11) (oi := { dst := some 26, op := Go.Op.assign (Go.Operand.tmp 183), type := 31, pos := "law.go:166", after := #[{ on := 10, ground := Go.Ground.data }, { on := 10, ground := Go.Ground.chain }, { on := 0, ground := Go.Ground.phase }, { on := 1, ground := Go.Ground.phase }, { on := 2, ground := Go.Ground.phase }, { on := 3, ground := Go.Ground.phase }, { on := 4, ground := Go.Ground.phase }, { on := 5, ground := Go.Ground.phase }, { on := 6, ground := Go.Ground.phase }, { on := 7, ground := Go.Ground.phase }, { on := 8, ground := Go.Ground.phase }, { on := 9, ground := Go.Ground.phase }, { on := 10, ground := Go.Ground.phase }], guard := none }) (v := ?_) rfl (by kernel_rfl) (by kernel_rfl) (by kernel_rfl) (fun _ _ _ h => h) (Or.inl ⟨by rfl, ?_⟩) hHeld ?_
                        rotate_left
                        · intro w hSw; obtain ⟨hS0, hS1, hS2, hS3, hS4, hS5, hS6, hS7⟩ := hSw; go_simp; try with_reducible rfl
                        rotate_left
                        try simp only [Act.put, List.setIfInBounds_toArray, List.set_cons_zero, List.set_cons_succ]
                        refine wpAnyH_done (by kernel_rfl) ?_ _
                        have hO : Out U v5 (s.got ++ b ++ f) X5 := ⟨r5, b5⟩
                        have HO9 := Lib.hid hO
                        clear hO r5 b5 k5 r3 r1 r1' r2 r0 hrg1 t1 t3 t5 g1 g3 g5' b2 b3 b3' b4 k1 k2 k3 k4 CK hLs hrg
                        go_wp2_with fail
                        go_meet
                        case rel => exact HO9.out
                      case rest =>
                        have hO := hcut
                        have hLl : (s.got ++ b ++ f).length ≤ 20 := by have := HHL.out.2; simp; omega
                        have HCN : Hid ((∀ a, (s.got ++ b ++ f).count a = al.count a) ∧ ∀ a, al.count a ≤ 1) := Lib.hid ⟨fun a => by have := HCNT.out.1 a; rw [List.count_append, List.count_append]; omega, HCNT.out.2⟩
                        clear HHL HCNT CK hLs hrg hcut
                        generalize u26 = lv at *
                        generalize wc = Y1 at *
                        generalize s.got ++ b ++ f = L at *
                        obtain ⟨la, hla⟩ : ∃ la, al.length = la := ⟨_, rfl⟩
                        have HLA := Lib.hid hla
                        have hlab : la ≤ 20 := by have := HAL.out.1; omega
                        rw [hla] at HU
                        try rw [hla]
                        clear hla
                        have hO0 : Out U lv (L ++ missing al 0) Y1 := by
                          have e : missing al 0 = [] := rfl
                          rw [e, List.append_nil]
                          exact hO
                        clear hO
                        go_wp2_with fail
                        go_loopw [26, 27, 28, 30, 184] (fun lv _ _ _ i W => ∃ t : Nat, i = .int .i64 (t : Int) ∧ t ≤ 20 ∧ Out U lv (L ++ missing al t) W) (fun _ _ _ _ i _ => 20 - (intOf i).toNat)
                        case atStart => exact ⟨0, rfl, by omega, hO0⟩
                        case round =>
                          clear hO0
                          obtain ⟨t, rfl, ht, hO⟩ := hrel
                          generalize wr = Y at *
                          generalize u26 = lv at *
                          by_cases ht20 : t < 20
                          · have ht20' : (t : Int) < 20 := by omega
                            have har : Row Y .i64 AA la al := HU.out.2.keep (Nat.le_refl _) hO.be
                            have HAR := Lib.hid har
                            have HO := Lib.hid hO
                            clear har hO
                            go_wp2_with fail
                            go_loopw [28, 30, 189] (fun mv _ i X => ∃ j : Nat, i = .int .i64 (j : Int) ∧ j ≤ la ∧ mv = .bool (among al j (t : Int)) ∧ X = Y) (fun _ _ i _ => la - (intOf i).toNat)
                            case atStart => exact ⟨0, rfl, Nat.zero_le _, rfl, rfl⟩
                            case round =>
                              obtain ⟨j, rfl, hj, rfl, rfl⟩ := hrel
                              by_cases hjl : j < la
                              · have hjl' : (j : Int) < la := by omega
                                obtain ⟨aa, rfl, _, hac⟩ := HAR.out.at_ (by omega)
                                have haj := hac j hjl
                                have hsu := among_succ (al := al) (j := j) (x := (t : Int)) (by rw [HLA.out]; exact hjl)
                                have HSU := Lib.hid hsu
                                clear hac hsu
                                generalize al.getD j 0 = y at *
                                generalize among al j (t : Int) = mb at *
                                cases mb with
                                | true =>
                                  go_wp2
                                  go_roundw
                                  case rel => exact ⟨j + 1, by go_num, by omega, by rw [HSU.out]; rfl, by trivial⟩
                                  case measure => simp [intOf]; omega
                                | false =>
                                  obtain ⟨yb, hyb⟩ : ∃ yb : Bool, (y == (t : Int)) = yb := ⟨_, rfl⟩
                                  have HSU2 : Hid (among al (j + 1) (t : Int) = yb) := Lib.hid (by rw [HSU.out, hyb]; rfl)
                                  clear HSU
                                  go_wp2
                                  go_roundw
                                  case rel => exact ⟨j + 1, by go_num, by omega, by rw [HSU2.out], by trivial⟩
                                  case measure => simp [intOf]; omega
                              · obtain rfl : j = la := by omega
                                have hae : among al j (t : Int) = decide ((t : Int) ∈ al) := by rw [← HLA.out]; exact among_all
                                have HAE := Lib.hid hae
                                have hsu := missing_succ al t
                                have HMS := Lib.hid hsu
                                have hml := missing_len al t
                                clear hae hsu
                                generalize among al j (t : Int) = mb at *
                                cases mb with
                                | true =>
                                  have hin : (t : Int) ∈ al := of_decide_eq_true HAE.out.symm
                                  have HO2 := HO.out
                                  have hF : Out U lv (L ++ missing al (t + 1)) wr := by rw [HMS.out, if_pos hin]; exact HO2
                                  have HF := Lib.hid hF
                                  clear hF HO2 hin HAE
                                  go_wp2_with fail
                                  go_roundw
                                  case rel => exact ⟨t + 1, by go_num, by omega, HF.out⟩
                                  case measure => simp [intOf]; omega
                                | false =>
                                  have hin : ¬ (t : Int) ∈ al := of_decide_eq_false HAE.out.symm
                                  have hO2 := HO.out
                                  have F := Lib.hid (fun v' w' (h : Out U v' (L ++ missing al t ++ [(t : Int)]) w') => (show Out U v' (L ++ missing al (t + 1)) w' from by rw [HMS.out, if_neg hin, ← List.append_assoc]; exact h))
                                  have hl9 : (L ++ missing al t).length ≤ 10000 := by rw [List.length_append]; omega
                                  clear hin HAE HMS
                                  generalize L ++ missing al t = zs9 at *
                                  go_wp2_with (first | (at_builtin; refine wpList_out hO2 (n := (t : Int)) (WalkArith.wf_i64 (by omega)) hl9 (by rfl) (.tmp 202) (.tmp 204) rfl rfl rfl ?_; intro v3 w3 hO3) | fail)
                                  go_roundw
                                  case rel => exact ⟨t + 1, by go_num, by omega, F.out _ _ hO3⟩
                                  case measure => simp [intOf]; omega
                          · obtain rfl : t = 20 := by omega
                            obtain ⟨A9, c9, hv9, hr9⟩ := hO.row.row
                            subst hv9
                            have hper : ((L ++ missing al 20) ++ []).Perm ((List.range 20).map fun (i : Nat) => (i : Int)) := by
                              rw [List.append_nil]
                              exact all_there HCN.out.1 HCN.out.2 HAL.out.2
                            have hea := each_any A9 none c9 0 (L ++ missing al 20) [] 20 Y hr9 ⟨rfl, by simp, by simp, fun h => by simp at h⟩ hper (by omega)
                            have bY : Below w.heap.size w Y := HU.out.1.trans (hO.be.mono HU.out.1.size)
                            clear hO hr9 hper
                            generalize (L ++ missing al 20).length = L9 at *
                            go_wp2_with fail
                            refine (show Calls Try.prog 26 #[.slice A9 L9 c9, .slice none 0 0, .int .i64 20] _ _ from hea).mono ?_
                            rintro e Y9 ⟨rfl, b9⟩
                            go_wp2
                            go_ret
                            exact ⟨rfl, bY.trans (b9.mono bY.size)⟩
theorem many9_nat (a0 a1 a2 a3 b : Int) (DA : Option Addr) (nd dcp : Nat) (zs : List Int) (PA : Option Addr) (np pcp : Nat) (xs : List Int) (w : World) (h0 : 0 ≤ a0 ∧ a0 < 256) (h1 : 0 ≤ a1 ∧ a1 < 256) (h2 : 0 ≤ a2 ∧ a2 < 256) (h3 : 0 ≤ a3 ∧ a3 < 256) (hb : 0 ≤ b ∧ b < 256) (hd : Row w .i64 DA nd zs) (hp : Row w .i64 PA np xs) :
    Calls Try.prog 8 #[.agg #[.int .u8 a0, .int .u8 a1, .int .u8 a2, .int .u8 a3], .slice DA nd dcp, .int .u8 b, .slice PA np pcp] w fun e w' => e = .returned (.bool true) ∧ Below w.heap.size w w' := by
  obtain ⟨x0, rfl⟩ := Int.eq_ofNat_of_zero_le h0.1
  obtain ⟨x1, rfl⟩ := Int.eq_ofNat_of_zero_le h1.1
  obtain ⟨x2, rfl⟩ := Int.eq_ofNat_of_zero_le h2.1
  obtain ⟨x3, rfl⟩ := Int.eq_ofNat_of_zero_le h3.1
  obtain ⟨y, rfl⟩ := Int.eq_ofNat_of_zero_le hb.1
  exact many9 (fun k => match k with | 0 => x0 | 1 => x1 | 2 => x2 | _ => x3) (fun k => by
    match k with
    | 0 => show x0 < 256; omega
    | 1 => show x1 < 256; omega
    | 2 => show x2 < 256; omega
    | n + 3 => show x3 < 256; omega) y (by omega) DA nd dcp zs PA np pcp xs w hd hp

end Go.Proofs.Ytgdonejclggjlaa
