/- Layer 8: the document's example. -/
import Derived.Test.YthjbmaeoogophaaU3
import Derived.ProofKit
import Derived.WalkKit
import Derived.Laws.MakeOwn
import Derived.Deep.Grids
namespace Go.Proofs.Ythjbmaeoogophaa
open Go.RowKit
set_option maxRecDepth 100000

section
variable {P : SP} {r : Nat} {s : SSt} {W W' : World}
theorem SI.below (hG : P.Good) (h : SI P r s W) {L : List Nat} (hL : ∀ b, b ∈ L → b ∈ P.L ∨ P.B ≤ b) (f : Fr L P.ws W W') : Below P.B W W' :=
  f.below (fun b hb => by
    rcases hL b hb with h1 | h1
    · exact (sm_ok P hG).low b h1
    · exact h1) (fun b hb => (h.rw hb).1) ((sm_ok P hG).okw _ _ _ h).base
theorem getA_zero (m : Nat) (i : Int) : getA (List.replicate m 0) i = 0 := by
  rcases hasA_cases (List.replicate m 0) i with h | ⟨k, rfl, h⟩
  · exact getA_out h
  · rw [getA_nat h]
    exact List.getElem_replicate _
theorem sok_zero (n : Nat) : SOk n (List.replicate (n + 1) 0) :=
  ⟨by simp, by rw [getA_zero]; exact ⟨by unfold N64; omega, by unfold hIx; omega⟩, fun i _ => by rw [getA_zero]; omega⟩
/-- bools that were just laid. -/
theorem BL.new {W : World} {g n : Nat} {bs : List Bool} {cs : Array Value} (h : Lies W g 4 cs) (hn : bs.length = n) (hc : ∀ i, i < n → cs[i]? = some (.bool (bs.getD i false))) (hm : n ≤ 100000) (h1 : g ∉ P.L ++ P.ex) (h2 : ¬ Rw P.ws W g) : BL P W (some ⟨g, 0, none⟩) bs := by
  subst hn
  refine ⟨hm, fun _ => ⟨_, rfl, h.lt, h1, h2, fun q => q.ne h (by decide), fun i hi => ?_⟩⟩
  rw [Addr.add_mid, Nat.zero_add, h.cell i]
  exact hc i hi
end

set_option maxHeartbeats 1000000 in
theorem speaks8_any (w : World) : Calls Try.prog 12 #[] w fun e w' => e = .returned (.bool true) ∧ Below w.heap.size w w' := by
  have hf := fresh8_any 3 (by omega) w
  have y2 := fun (a : Addr) (f : FuncId) (c : Array Value) (w : World) => run_store Try.prog w a (.func (.func f) #[] c) .plain rfl
  go_enter Try.func12, Try.ntmps12
  go_wp2_with fail
  refine (show Calls Try.prog 13 #[.int .i64 3] _ _ from hf).mono ?_
  rintro e w1 ⟨p, c, rfl, ha, hb, hc, hp⟩
  clear hf
  go_wp2_with fail
  have hz1 := ha.head.lt
  have hb1 := hb.size
  generalize hh : w1.heap.size = h1 at *
  obtain ⟨W6, hW6⟩ : ∃ W6, (((((w1.alloc (.cells #[.pointer (some ⟨p, 0, none⟩), .int .i64 0, .func (.func 38) #[] #[]] 27)).alloc (.cells #[.slice none 0 0] 31)).alloc (.cells #[.bool false, .bool false, .bool true, .bool true, .bool true] 4)).alloc (.cells #[.int .i64 2, .int .i64 1] 3)).alloc (.cells #[.slice (some ⟨h1 + 1 + 1 + 1, 0, none⟩) 2 2, .pointer (some ⟨h1 + 1, 0, none⟩), .bool false, .bool false, .bool false] 34)) = W6 := ⟨_, rfl⟩
  have k6 : Turns [] w1 W6 := by rw [← hW6]; exact (((((Turns.refl _ _).alloc _).alloc _).alloc _).alloc _).alloc _
  have l1 : Lies W6 (h1 + 1) 31 #[.slice none 0 0] := by rw [← hW6]; exact (((Lies.new_of _ _ (by simp [hh])).alloc _).alloc _).alloc _
  have l2 : Lies W6 (h1 + 1 + 1) 4 #[.bool false, .bool false, .bool true, .bool true, .bool true] := by rw [← hW6]; exact ((Lies.new_of _ _ (by simp [hh])).alloc _).alloc _
  have l3 : Lies W6 (h1 + 1 + 1 + 1) 3 #[.int .i64 2, .int .i64 1] := by rw [← hW6]; exact (Lies.new_of _ _ (by simp [hh])).alloc _
  have l4 : Lies W6 (h1 + 1 + 1 + 1 + 1) 34 #[.slice (some ⟨h1 + 1 + 1 + 1, 0, none⟩) 2 2, .pointer (some ⟨h1 + 1, 0, none⟩), .bool false, .bool false, .bool false] := by rw [← hW6]; exact Lies.new_of _ _ (by simp [hh])
  have ha6 := ha.turn k6 (by simp) (by simp)
  obtain ⟨P, hP⟩ : ∃ P, SP1 p c w.heap.size 3 (h1 + 1 + 1 + 1 + 1) (some (h1 + 1)) = P := ⟨_, rfl⟩
  have hG : P.Good := by
    rw [← hP]
    exact SP1.good (by omega) hc (by omega) (fun x hx => by injection hx with hx; subst hx; omega) (by omega) (by omega) (by omega)
  obtain ⟨s0, hs0⟩ : ∃ s0, SSt1 [0, 0, 0, 0] 0 [2, 1] [] false false false = s0 := ⟨_, rfl⟩
  have hI : SI P 60 s0 W6 := by
    rw [← hP, ← hs0]
    refine SI.one ha6 (by omega) (sok_zero 3) l4 ?_ (fun x hx => ?_) (by decide) (by simp)
    · exact ⟨rfl, .inr ⟨_, 2, _, rfl, by omega, l3, Nat.le_refl 2, by simp only [maxLen]; omega, rfl, rfl⟩⟩
    · injection hx with hx
      subst hx
      exact ⟨_, l1, World.ownsRow_nil _ _ _ _, fun b _ h => by cases h⟩
  have okw := (sm_ok P hG).okw _ _ _ hI
  have notin : ∀ x, x = h1 + 1 + 1 → x ∉ P.L ++ P.ex := fun x hx hm => by
    rw [← hP] at hm
    have hm := (List.mem_append.1 hm).resolve_right (by simp [SP1])
    rcases SP.L_mem.1 hm with h | h | ⟨j, _, h⟩ | ⟨j, _, h⟩
    · have h : x = p := h
      omega
    · have h : x = c := h
      omega
    · have h : h1 + 1 + 1 + 1 + 1 = x := h
      omega
    · injection h with h
      omega
  have hBL : BL P W6 (some ⟨h1 + 1 + 1, 0, none⟩) [false, false, true, true, true] := BL.new l2 (n := 5) rfl (fun i hi => by rcases (by omega : i = 0 ∨ i = 1 ∨ i = 2 ∨ i = 3 ∨ i = 4) with rfl | rfl | rfl | rfl | rfl <;> rfl) (by omega) (notin _ rfl) (fun h => by
    obtain ⟨_, cur, h2⟩ := hI.rw h
    exact h2.unlike l2 (by decide) rfl)
  have hcode := code_g hG 60 [false, false, true, true, true] 0 (some ⟨h1 + 1 + 1, 0, none⟩) 5 W6 60 s0 (by rw [← hP]; exact Nat.one_pos) hBL (by simp) hI
  have hA : #[stV P, Value.slice (some ⟨h1 + 1 + 1, 0, none⟩) [false, false, true, true, true].length 5, ptr (P.wb 0)] = #[chV p 0 38 #[], Value.slice (some ⟨h1 + 1 + 1, 0, none⟩) 5 5, ptr (h1 + 1 + 1 + 1 + 1)] := by rw [← hP]; rfl
  unfold Gm.Then at hcode
  rw [hA] at hcode
  obtain ⟨R, hR⟩ : ∃ R, startS 0 [false, false, true, true, true] s0 = R := ⟨_, rfl⟩
  rw [hR] at hcode
  have hg := go_speaks8 p c w.heap.size (h1 + 1 + 1 + 1 + 1) (h1 + 1)
  rw [hP, hs0, hR] at hg
  have hWR : (SM P).W R.1 R.2 := by rw [← hR]; exact W_start _ _ _
  have hend : (SM P).ended ((SM P).runN R.1 R.2 0 60).1 = true ∧ ((SM P).runN R.1 R.2 0 60).2.1.gt 0 = [2, 1, -1] := by
    obtain ⟨e1, e2⟩ := runN_go (M := SM P) 13 R.1 R.2 0
    have h13 : (SM P).ended ((SM P).runN R.1 R.2 0 13).1 = true := by
      rw [e1]
      show (match ((SM P).go 13 R).1.m with | .done => true | _ => false) = true
      rw [hg.1]
    have e := runN_end h13 47
    rw [show 13 + 47 = 60 by omega] at e
    rw [e, e2]
    exact ⟨e1 ▸ h13, hg.2⟩
  have gp : P.gp 0 = some (h1 + 1) ∧ P.nw = 1 ∧ P.B = w.heap.size := by rw [← hP]; exact ⟨rfl, rfl, rfl⟩
  have b6 : Below w.heap.size w W6 := hb.trans (k6.below (by simp) (by omega))
  have b7 := fun W' (f : Fr P.L P.ws W6 W') => hI.below hG (fun b hb => .inl hb) f
  rw [gp.2.2] at b7
  have HEND := Lib.hid hend
  have HGP := Lib.hid gp
  rw [hW6]
  clear hA hR hg hend gp hP hs0 hI hBL notin l1 l2 l3 l4 ha6 k6 hb ha okw hW6 hh hz1 hb1
  refine hcode.mono ?_
  rintro e w7 ⟨v, rfl, ⟨hi7, hc7⟩, f7⟩
  have hn := newtask_any v hc7.is w7
  go_wp2_with fail
  refine hn.mono ?_
  rintro e w8 ⟨rfl, hw8⟩
  have hM := sm_ok P hG
  have tk := Gm.Task.made hM (hM.okw _ _ _ hi7) hc7
  have k8 : Turns [] w7 (w7.alloc (.cells #[v, .int .i64 0] 89)) := (Turns.refl _ _).alloc _
  have hi8 := hM.made k8 hi7
  have b8 : Below w.heap.size w7 (w7.alloc (.cells #[v, .int .i64 0] 89)) := k8.below (by simp) (by have := (b7 _ f7).size; have := b6.size; omega)
  rw [hw8] at tk hi8 b8
  have hfin := finish_g hM 60 (Nat.le_refl _) tk hi8 (fun j _ _ => W_run hWR j) (by omega)
  rw [HEND.out.1] at hfin
  have b9 := fun W' (f : Fr (w7.heap.size :: P.L) P.ws w8 W') => SI.below hG hi8 (fun b hb => by
    rcases List.mem_cons.1 hb with h | h
    · right
      rw [HGP.out.2.2, h]
      have := (b7 _ f7).size
      have := b6.size
      omega
    · exact .inl h) f
  rw [HGP.out.2.2] at b9
  have b8 := (b6.trans (b7 _ f7)).trans b8
  clear hw8 tk hi8 hi7 hc7 hn hcode b6 b7 k8 f7
  go_wp2_with fail
  refine (show Calls Try.prog 18 #[ptr w7.heap.size, .int .i64 60] _ _ from hfin).mono ?_
  rintro e w9 ⟨rfl, _, hi9, f9, _⟩
  obtain ⟨x, hx, hox⟩ := SI.gt hi9 0 (h1 + 1) (by rw [HGP.out.2.1]; omega) HGP.out.1
  rw [HEND.out.2] at hox
  have b9 := b8.trans (b9 _ f9)
  have hrx : IRow w9 P.B x [2, 1, -1] := ⟨hox, by intro y hy; simp at hy; rcases hy with rfl | rfl | rfl <;> decide⟩
  obtain ⟨A, cx, rfl, hrw⟩ := hrx.row
  have c9 : w9.cell? ⟨h1 + 1, 0, none⟩ = some (.slice A 3 cx) := hx.cell 0
  have hlit := IRow.lit w9 (B := w.heap.size) [2, 1, -1] #[.int .i64 2, .int .i64 1, .int .i64 (-1)] rfl (by have := b9.size; omega) hrx.ints (by simp)
  obtain ⟨A', c', e', hrw'⟩ := hlit.row
  have bz : Below w9.heap.size w9 (w9.alloc (.cells #[.int .i64 2, .int .i64 1, .int .i64 (-1)] 3)) := (Below.refl _ _).alloc (Nat.le_refl _) _
  have hs := rsame_any A A' 3 cx c' [2, 1, -1] _ (hrw.keep (Nat.le_refl _) bz) hrw'
  injection e' with ea eb ec
  subst ea
  subst ec
  clear eb
  have b10 := b9.trans (bz.mono (by have := b9.size; omega))
  have hz := b10.size
  clear hfin hi9 f9 hx hox hrx hlit hrw hrw' HEND b8
  go_wp2_with fail
  refine hs.mono ?_
  rintro e w10 ⟨rfl, hz10⟩
  go_wp2
  go_ret
  exact ⟨rfl, b10.trans (hz10.mono hz)⟩

end Go.Proofs.Ythjbmaeoogophaa

/- Layer 8: what is put on, taken, and put back. -/
namespace Go.Proofs.Ythjbmaeoogophaa
open Go.RowKit

/-- the numbers from 0 to m - 1. -/
def upto (m : Nat) : List Int := (List.range m).map fun i : Nat => (i : Int)
theorem upto_succ (m : Nat) : upto (m + 1) = upto m ++ [(m : Int)] := by unfold upto; rw [List.range_succ, List.map_append]; rfl
theorem upto_length (m : Nat) : (upto m).length = m := by simp [upto]

section
variable {n : Nat}
theorem simA_false (l : List Bool) (hs ts : List Int) (i : Int) : simA (false :: l) (hs ++ [i]) ts = simA l hs (i :: ts) := by
  show (match (hs ++ [i]).getLast? with | none => simA l (hs ++ [i]) ts | some i' => simA l (hs ++ [i]).dropLast (i' :: ts)) = _
  rw [List.getLast?_concat, List.dropLast_concat]
theorem finds_false (l : List Bool) (hs ts : List Int) (i : Int) : finds (false :: l) (hs ++ [i]) ts = finds l hs (i :: ts) := by
  show (match (hs ++ [i]).getLast? with | none => finds l (hs ++ [i]) ts | some i' => finds l (hs ++ [i]).dropLast (i' :: ts)) = _
  rw [List.getLast?_concat, List.dropLast_concat]

/-- the last m things in hand are put on. -/
theorem put_on : ∀ (m : Nat) (hs xs ts : List Int), xs.length = m → simA (List.replicate m false) (hs ++ xs) ts = (hs, xs ++ ts) ∧ finds (List.replicate m false) (hs ++ xs) ts
  | 0, hs, xs, ts, h => by
    obtain rfl := List.length_eq_zero_iff.1 h
    rw [List.append_nil]
    exact ⟨rfl, trivial⟩
  | m + 1, hs, xs, ts, h => by
    have hne : xs ≠ [] := fun e => by rw [e] at h; cases h
    obtain ⟨ys, y, rfl⟩ : ∃ ys y, xs = ys ++ [y] := ⟨xs.dropLast, xs.getLast hne, (List.dropLast_concat_getLast hne).symm⟩
    have hl : ys.length = m := by simp at h; omega
    obtain ⟨e1, e2⟩ := put_on m hs ys (y :: ts) hl
    rw [List.replicate_succ, ← List.append_assoc, simA_false, finds_false]
    exact ⟨by rw [e1]; simp, e2⟩
/-- the first m things are taken. -/
theorem taken : ∀ (m : Nat) (hs xs ts : List Int), xs.length = m → simA (List.replicate m true) hs (xs ++ ts) = (hs ++ xs, ts) ∧ finds (List.replicate m true) hs (xs ++ ts)
  | 0, hs, xs, ts, h => by
    obtain rfl := List.length_eq_zero_iff.1 h
    rw [List.append_nil]
    exact ⟨rfl, trivial⟩
  | m + 1, hs, xs, ts, h => by
    cases xs with
    | nil => cases h
    | cons x xs =>
      have hl : xs.length = m := by simp at h; omega
      obtain ⟨e1, e2⟩ := taken m (hs ++ [x]) xs ts hl
      rw [List.replicate_succ]
      show simA (List.replicate m true) (hs ++ [x]) (xs ++ ts) = _ ∧ finds (List.replicate m true) (hs ++ [x]) (xs ++ ts)
      exact ⟨by rw [e1]; simp, e2⟩

/-- a stack without things; all are in hand. -/
theorem one_start (k : Nat) : One k (List.replicate (k + 1) 0) (upto k) [] := by
  refine ⟨sok_zero k, ?_, List.Perm.refl _⟩
  show hIx (getA (List.replicate (k + 1) 0) 0) = -1
  rw [getA_zero]
  unfold hIx
  omega
/-- StackBack's three tasks: all put on; the first m taken; put back. -/
theorem back_all (k m : Nat) (hm : m ≤ k) :
    (simA (List.replicate k false) (upto k) [] = ([], upto k) ∧ finds (List.replicate k false) (upto k) []) ∧
      (simA (List.replicate m true) [] (upto k) = ((upto k).take m, (upto k).drop m) ∧ finds (List.replicate m true) [] (upto k)) ∧
      (simA (List.replicate m false) ((upto k).take m) ((upto k).drop m) = ([], upto k) ∧ finds (List.replicate m false) ((upto k).take m) ((upto k).drop m)) := by
  have hl := upto_length k
  have ht : ((upto k).take m).length = m := by rw [List.length_take, hl]; omega
  have h1 := put_on k [] (upto k) [] hl
  have h2 := taken m [] ((upto k).take m) ((upto k).drop m) ht
  have h3 := put_on m [] ((upto k).take m) ((upto k).drop m) ht
  rw [List.take_append_drop] at h2 h3
  simp only [List.nil_append, List.append_nil] at h1 h2 h3
  exact ⟨h1, h2, h3⟩
end

end Go.Proofs.Ythjbmaeoogophaa

/- Slices of the call's own, one cell an element, whatever they have; bools among them. (Parted out of Q16.) -/
namespace Go.Proofs.Ythjbmaeoogophaa
open Go.RowKit Go.ChangeShapes Go.WideShapes

/-- the slice v, of the call's own from block B on, has the values vs, one cell each. -/
structure VRow (W : World) (B : Nat) (E : TypeId) (v : Value) (vs : List Value) : Prop where
  own : W.ownsRow B E 1 v vs.length vs
section
variable {W W' : World} {B : Nat} {E : TypeId} {v : Value} {vs : List Value}
theorem VRow.nil (W : World) (B : Nat) (E : TypeId) : VRow W B E (.slice none 0 0) [] := ⟨⟨rfl, .inl ⟨rfl, rfl⟩⟩⟩
theorem VRow.kept (h : VRow W B E v vs) (k : ∀ g, v.ownBlock = some g → W'.heap[g]? = W.heap[g]?) : VRow W' B E v vs := by
  refine ⟨⟨h.own.1, ?_⟩⟩
  rcases h.own.2 with h1 | ⟨g, cap, cur, h1, h2, h3, h4⟩
  · exact .inl h1
  · exact .inr ⟨g, cap, cur, h1, h2, (k g (by rw [h1]; rfl)).trans h3, h4⟩
theorem VRow.turns {L : List Nat} (h : VRow W B E v vs) (k : Turns L W W') (hL : ∀ g, v.ownBlock = some g → g ∉ L) : VRow W' B E v vs :=
  h.kept fun g hg => k.block g (h.own.lt g hg).2 (hL g hg)
theorem VRow.lies (h : VRow W B E v vs) {g : Nat} (hg : v.ownBlock = some g) : B ≤ g ∧ ∃ cur, Lies W g E cur := by
  rcases h.own.2 with ⟨rfl, _⟩ | ⟨g', cap, cur, rfl, h2, h3, _⟩
  · cases hg
  · simp [Value.ownBlock] at hg
    subst hg
    exact ⟨h2, cur, h3⟩
theorem VRow.slice (h : VRow W B E v vs) : ∃ A cp, v = .slice A vs.length cp ∧ vs.length ≤ maxLen ∧ (0 < vs.length → ∃ g, A = some ⟨g, 0, none⟩ ∧ v.ownBlock = some g ∧ ∀ i u, vs[i]? = some u → W.cell? ⟨g, i, none⟩ = some u) := by
  rcases h.own.2 with ⟨rfl, h0⟩ | ⟨g, cap, cur, rfl, h2, h3, h4, h5, _⟩
  · exact ⟨none, 0, by rw [h0], by simp [h0], fun hn => by omega⟩
  · refine ⟨_, _, rfl, by omega, fun hn => ⟨g, rfl, rfl, fun i u hu => ?_⟩⟩
    have := h.own.cells (g := g) rfl i u hu
    rwa [add_head4] at this

/-- one value more. -/
theorem wpList_vrow {T : TypeId} {z u : Value} {ops : Array Oper} {rest : List Oper} {o : Oper} {a : Act} {Q : Exit → Act → World → Prop} (hT : Try.prog.underlying T = some (.slice E)) {nb : Nat} (hinfo : (Try.prog.info? E).map (fun i => (i.zero, i.size, i.bytes)) = some (some z, 1, nb)) (hnb : nb ≤ 1000) (hz : z.cells.size = 1) (hu : u.oneCell' = true)
    (h : VRow W B E v vs) (hB : B ≤ W.heap.size) (hl : vs.length ≤ 10000) (hgd : Region.wanted o (yielded ops a.tmps) = true) (s x : Operand) (ho : o.op = .call { callee := .builtin .append, args := #[s, x], argTypes := #[T, T] })
    (hs : a.eval s = v) (hx : a.eval x = .slice (some ⟨W.heap.size, 0, none⟩) 1 1)
    (hK : ∀ v' w', VRow w' B E v' (vs ++ [u]) → Turns v.ownBlock.toList W w' → wpList Try.prog ops Q rest (a.put o.dst v') w') : wpList Try.prog ops Q (o :: rest) a (W.alloc (.cells #[u] E)) := by
  obtain ⟨i0, hi0, hz0, hz1, hz2⟩ := info_parts hinfo
  refine wpList_step fun K hK0 => ?_
  rw [if_pos hgd]
  refine wp_append_own _ s x T ho B E i0 _ 1 nb hT hi0 hz0 hz1 hz2 hz (by omega) v vs.length vs hs (h.own.alloc _) ⟨W.heap.size, 0, none⟩ 1 1 [u] hx rfl ?_ ?_ (by simp only [maxLen]; omega) (Nat.le_trans (Nat.mul_le_mul (show vs.length + 1 ≤ 10001 by omega) hnb) (by omega)) (by simp; omega) ?_
  · intro j y hy
    match j, hy with
    | 0, hy =>
      simp at hy
      subst hy
      simp [Addr.add]
  · intro y hy
    simp at hy
    subst hy
    exact hu
  · intro v' w' h1 h2 _
    refine hK0 _ _ (hK v' w' ⟨by simpa using h1⟩ ⟨h2.os, h2.tape, h2.output, ?_, fun k hk hn => ?_⟩)
    · have := h2.size
      simp at this
      omega
    · rw [h2.block k (by simp; omega) (fun e => hn (by rw [← e]; simp))]
      exact Below.heap_alloc W _ k hk
end


section
variable {W : World} {B : Nat} {E : TypeId} {v : Value} {vs : List Value}
/-- a slice that isn't nil, without elements. -/
theorem VRow.empty (W : World) (E : TypeId) (hB : B ≤ W.heap.size) : VRow (W.alloc (.cells #[] E)) B E (.slice (some ⟨W.heap.size, 0, none⟩) 0 0) [] :=
  ⟨⟨rfl, .inr ⟨W.heap.size, 0, #[], rfl, hB, heap_alloc_new W _, Nat.le_refl _, by simp [maxLen], rfl, rfl⟩⟩⟩
/-- bools of the call's own, as code() wants them. -/
theorem VRow.bl {P : SP} {bs : List Bool} (h : VRow W B 4 v (bs.map Value.bool)) (hn : bs.length ≤ 100000) (h1 : ∀ g, v.ownBlock = some g → g ∉ P.L ++ P.ex) (h2 : ∀ g, v.ownBlock = some g → ¬ Rw P.ws W g) : ∃ A cp, v = .slice A bs.length cp ∧ bs.length ≤ cp ∧ BL P W A bs := by
  rcases h.own.2 with ⟨rfl, h0⟩ | ⟨g, cap, cur, rfl, _, h3, h4, _⟩
  · rw [List.length_map] at h0
    exact ⟨none, 0, by rw [h0], by omega, hn, fun hp => by omega⟩
  · rw [List.length_map] at h4 ⊢
    have hl : Lies W g 4 cur := h3
    refine ⟨_, cap, rfl, h4, BL.new (n := bs.length) hl rfl (fun i hi => ?_) hn (h1 g rfl) (h2 g rfl)⟩
    have := h.own.cells (g := g) rfl i (.bool (bs.getD i false)) (by simp [List.getD, hi])
    rw [add_head4, hl.cell i] at this
    exact this
end

end Go.Proofs.Ythjbmaeoogophaa

/- Layer 8: what the law writes of its own leaves the state as it is. -/
namespace Go.Proofs.Ythjbmaeoogophaa
open Go.RowKit
set_option maxRecDepth 100000

section
variable {P : SP} {r : Nat} {s : SSt} {W W' : World} {K : List Nat}
/-- a block of a type that the state has not is apart from it. -/
theorem SI.apart_ty (h : SI P r s W) {g : Nat} {t : TypeId} {cs : Array Value} (l : Lies W g t cs) (h1 : t ≠ 101) (h2 : t ≠ 111) (h3 : t ≠ 34) (h4 : t ≠ 3) (h5 : t ≠ 31 ∨ ∀ j, j < P.nw → P.gp j = none) : g ∉ P.L ∧ ¬ Rw P.ws W g := by
  refine ⟨fun hm => ?_, fun hr => ?_⟩
  · rcases SP.L_mem.1 hm with rfl | rfl | ⟨j, hj, rfl⟩ | ⟨j, hj, hg⟩
    · exact l.unlike h.ar.head h1 rfl
    · exact l.unlike h.ar.body h2 rfl
    · obtain ⟨v, hl, _⟩ := h.wk j hj
      exact l.unlike hl h3 rfl
    · obtain ⟨v, hl, _⟩ := h.gt j g hj hg
      rcases h5 with h5 | h5
      · exact l.unlike hl h5 rfl
      · rw [h5 j hj] at hg
        cases hg
  · obtain ⟨_, cur, hl⟩ := h.rw hr
    exact l.unlike hl h4 rfl
theorem SI.bools (h : SI P r s W) {g : Nat} {cs : Array Value} (l : Lies W g 4 cs) : g ∉ P.L ∧ ¬ Rw P.ws W g := h.apart_ty l (by decide) (by decide) (by decide) (by decide) (.inl (by decide))
theorem SI.turns (h : SI P r s W) (t : Turns K W W') (hK : ∀ b, b ∈ K → b ∉ P.L ∧ ¬ Rw P.ws W b) : SI P r s W' :=
  h.keep (fun b hb hm => t.block b hb fun hk => by
    rcases hm with h1 | h1
    · exact (hK b hk).1 h1
    · exact (hK b hk).2 h1) t.size
/-- the cells that tell rows are as they were, and so are the rows. -/
theorem SI.rows_turns (hG : P.Good) (h : SI P r s W) (t : Turns K W W') (hK : ∀ b, b ∈ K → b ∉ P.L) {b : Nat} (q : Rw P.ws W' b) : Rw P.ws W b :=
  q.same fun x hx => t.cell (h.block_lt hx) fun hk => hK _ hk ((sm_ok P hG).cells x hx)
theorem Gm.Bx.turns (hG : P.Good) (h : SI P r s W) {b : Nat} {t : TypeId} {cs : Array Value} (x : (SM P).Bx W b t cs) (k : Turns K W W') (hK : ∀ c, c ∈ K → c ∉ P.L) (hb : b ∉ K) : (SM P).Bx W' b t cs :=
  ⟨x.l.turn k hb, x.out, fun q => x.row (SI.rows_turns hG h k hK q), x.ty, x.outX⟩
/-- a slice of bools of the law's own, behind what the machine wrote. -/
theorem VRow.fr {B : Nat} {v : Value} {vs : List Value} (h : SI P r s W) (x : VRow W B 4 v vs) (f : Fr P.L P.ws W W') : VRow W' B 4 v vs :=
  x.kept fun g hg => by
    obtain ⟨_, cur, hl⟩ := x.lies hg
    exact f.block g hl.lt (h.bools hl).1 (h.bools hl).2
/-- the state, behind a bool that was appended. -/
theorem SI.vrow {B : Nat} {v : Value} {vs : List Value} (h : SI P r s W) (x : VRow W B 4 v vs) (t : Turns v.ownBlock.toList W W') : SI P r s W' :=
  h.turns t fun b hb => by
    obtain ⟨_, cur, hl⟩ := x.lies (g := b) (by simpa using hb)
    exact h.bools hl
end

end Go.Proofs.Ythjbmaeoogophaa

/- Layer 8: StackBack's two first loops: what holds there. -/
namespace Go.Proofs.Ythjbmaeoogophaa
open Go.RowKit
set_option maxRecDepth 100000

/-- while the worker's hands are filled. -/
structure Fill (w0 : World) (P : SP) (bx B0 k m : Nat) (gt : Nat) (pv : Value) (W : World) : Prop where
  si : ∃ s, SI P 600 s W ∧ s.hs 0 = upto m ∧ s.l = List.replicate (k + 1) 0 ∧ s.wr 0 = false ∧ s.k = 0
  box : (SM P).Bx W bx 27 (stC P)
  puts : VRow W B0 4 pv ((List.replicate m false).map Value.bool)
  there : Lies W gt 4 #[]
  two : pv.ownBlock ≠ some gt
  le : m ≤ k
  be : Below B0 w0 W

/-- while the Pops are counted out. -/
structure There (w0 : World) (P : SP) (bx B0 k m0 j : Nat) (pv tv : Value) (W : World) : Prop where
  si : ∃ s, SI P 600 s W ∧ s.hs 0 = upto k ∧ s.l = List.replicate (k + 1) 0 ∧ s.wr 0 = false ∧ s.k = 0
  box : (SM P).Bx W bx 27 (stC P)
  puts : VRow W B0 4 pv ((List.replicate k false).map Value.bool)
  there : VRow W B0 4 tv ((List.replicate j true).map Value.bool)
  two : ∀ g, pv.ownBlock = some g → tv.ownBlock ≠ some g
  le : j ≤ m0
  few : m0 ≤ k
  be : Below B0 w0 W
theorem There.next {w0 : World} {P : SP} {bx B0 k m0 j : Nat} {pv tv tv' : Value} {W W' : World} (hG : P.Good) (hB0 : B0 ≤ w0.heap.size) (h : There w0 P bx B0 k m0 j pv tv W) (hj : j < m0) (x : VRow W' B0 4 tv' ((List.replicate j true).map Value.bool ++ [.bool true])) (t : Turns tv.ownBlock.toList W W') : There w0 P bx B0 k m0 (j + 1) pv tv' W' := by
  obtain ⟨s, hi, hs⟩ := h.si
  have hK : ∀ b, b ∈ tv.ownBlock.toList → b ∉ P.L ∧ ¬ Rw P.ws W b := fun b hb => by
    obtain ⟨_, cur, hl⟩ := h.there.lies (g := b) (by simpa using hb)
    exact hi.bools hl
  have hp : VRow W' B0 4 pv ((List.replicate k false).map Value.bool) := h.puts.turns t fun g hg hk => h.two g hg (by simpa using hk)
  refine ⟨⟨s, hi.vrow h.there t, hs⟩, Gm.Bx.turns hG hi h.box t (fun b hb => (hK b hb).1) (fun hb => ?_), hp, ?_, fun g hg e => ?_, by omega, h.few, h.be.trans (t.below (fun b hb => (h.there.lies (by simpa using hb)).1) (Nat.le_trans hB0 h.be.size))⟩
  · obtain ⟨_, cur, hl⟩ := h.there.lies (g := bx) (by simpa using hb)
    exact hl.unlike h.box.l (by decide) rfl
  · rw [List.replicate_succ', List.map_append]
    exact x
  · have hk := h.few
    have c1 := hp.own.cells (g := g) hg 0 (.bool false) (by rw [List.getElem?_map, List.getElem?_replicate, if_pos (by omega)]; rfl)
    have c2 := x.own.cells (g := g) e 0 (.bool true) (by
      cases j with
      | zero => rfl
      | succ j => simp [List.replicate_succ])
    rw [c1] at c2
    injection c2 with c2
    injection c2 with c2
    cases c2

end Go.Proofs.Ythjbmaeoogophaa

/- Slices of slices. (Parted out of Q18.) -/
namespace Go.Proofs.Ythjbmaeoogophaa
open Go.RowKit Go.ChangeShapes Go.WideShapes

/-- where the first k of a slice lie, and the others. -/
theorem slice_to {t : TypeId} {e : TypeId} (ht : Try.prog.underlying t = some (.slice e)) (h1 : (Try.prog.info? e).map (·.size) = some 1) (A : Option Addr) (n cp k : Nat) (hk : k ≤ cp) (W : World) :
    (Instr.sliceAt t (.slice A n cp) none (some (.int .i64 (k : Int))) none).run Try.prog W = .ok (.slice (if cp = 0 then A else A.map (·.add 0)) k cp) W := by
  obtain ⟨i, hi, hz⟩ := Option.map_eq_some_iff.1 h1
  simp [Instr.sliceAt, Instr.slice, run_underlying ht, Instr.sliceBounds, Instr.sliceBound, asIntOf, sizeOf, typeInfo, hi]
  intro h; omega
theorem slice_from {t : TypeId} {e : TypeId} (ht : Try.prog.underlying t = some (.slice e)) (h1 : (Try.prog.info? e).map (·.size) = some 1) (A : Option Addr) (n cp k : Nat) (hk : k ≤ n) (W : World) :
    (Instr.sliceAt t (.slice A n cp) (some (.int .i64 (k : Int))) none none).run Try.prog W = .ok (.slice (if cp = k then A else A.map (·.add k)) (n - k) (cp - k)) W := by
  obtain ⟨i, hi, hz⟩ := Option.map_eq_some_iff.1 h1
  simp [Instr.sliceAt, Instr.slice, run_underlying ht, Instr.sliceBounds, Instr.sliceBound, asIntOf, sizeOf, typeInfo, hi, hz]
  intro h; omega

theorem add_zero' (a : Addr) : a.add 0 = a := by simp [Addr.add]
section
variable {w : World} {A : Option Addr} {n k cp : Nat} {xs : List Int}
theorem Row.take (h : Row w .i64 A n xs) (hk : k ≤ n) (A' : Option Addr) (hA : A' = (if cp = 0 then A else A.map (·.add 0))) : Row w .i64 A' k (xs.take k) := by
  have e : A' = A := by
    rw [hA]
    split
    · rfl
    · cases A <;> simp [add_zero']
  subst e
  have hl := h.len
  refine ⟨by simp; omega, by have := h.most; omega, fun x hx => h.wf x (List.mem_of_mem_take hx), fun hn => ?_⟩
  obtain ⟨a, e, h1, h2⟩ := h.at_ (by omega)
  refine ⟨a, e, h1, fun i hi => ?_⟩
  rw [h2 i (by omega)]
  simp [List.getD, hi]
theorem Row.drop (h : Row w .i64 A n xs) (hk : k ≤ n) (hcp : n ≤ cp) (A' : Option Addr) (hA : A' = (if cp = k then A else A.map (·.add k))) : Row w .i64 A' (n - k) (xs.drop k) := by
  have hl := h.len
  refine ⟨by simp; omega, by have := h.most; omega, fun x hx => h.wf x (List.mem_of_mem_drop hx), fun hn => ?_⟩
  obtain ⟨a, e, h1, h2⟩ := h.at_ (by omega)
  subst e
  rw [if_neg (by omega)] at hA
  refine ⟨a.add k, by rw [hA]; rfl, by rw [add_block]; exact h1, fun i hi => ?_⟩
  rw [Go.Deep.add_add, h2 (k + i) (by omega)]
  simp [List.getD, List.getElem?_drop]
end

end Go.Proofs.Ythjbmaeoogophaa

/- Layer 8: StackBack's last loop: what holds there. -/
namespace Go.Proofs.Ythjbmaeoogophaa
open Go.RowKit Go.ChangeShapes Go.WideShapes
set_option maxRecDepth 100000

theorem made_bools (n : Nat) : madeCells #[.bool false] n = ((List.replicate n false).map Value.bool).toArray := by
  apply Array.ext
  · simp [madeCells]
  · intro i h1 h2
    simp [madeCells, Nat.mod_one]
theorem make_bools (n : Nat) (hn : n ≤ 1048576) (W : World) :
    (Instr.makeSlice 22 (.int .i64 (n : Int)) (.int .i64 (n : Int))).run Try.prog W = .ok (.slice (some ⟨W.heap.size, 0, none⟩) n n) (W.alloc (.cells ((List.replicate n false).map Value.bool).toArray 4)) := by
  obtain ⟨i, hi, hz, hs, hb⟩ := info_parts (P := Try.prog) (t := 4) (z := .bool false) (s := 1) (b := 1) (by kernel_rfl)
  have hr := run_make (P := Try.prog) W 22 4 i _ Try.underlying22 hi hz .i64 .i64 n n (by omega) (by omega) (by rw [hb]; omega) (by omega)
  simp only [Int.toNat_natCast, hs, Nat.mul_one] at hr
  rw [hr, ← made_bools]
  rfl
theorem VRow.made (W : World) {B : Nat} (n : Nat) (hn : n ≤ 1000) (hB : B ≤ W.heap.size) : VRow (W.alloc (.cells ((List.replicate n false).map Value.bool).toArray 4)) B 4 (.slice (some ⟨W.heap.size, 0, none⟩) n n) ((List.replicate n false).map Value.bool) :=
  ⟨⟨by simp, .inr ⟨W.heap.size, n, _, by simp, hB, heap_alloc_new W _, by simp, by simp only [maxLen]; omega, by simp, by simp⟩⟩⟩

theorem Fr.past {L : List Nat} {ws : List Addr} {a w w' : World} {t : Nat} (h : Fr L ws a w) (k : Fr (t :: L) ws w w') (ht : a.heap.size ≤ t) : Fr L ws a w' :=
  ⟨k.os.trans h.os, k.tape.trans h.tape, k.output.trans h.output, Nat.le_trans h.size k.size,
   fun b hb hn hr => (k.block b (Nat.lt_of_lt_of_le hb h.size) (fun hm => by
     rcases List.mem_cons.1 hm with h1 | h1
     · omega
     · exact hn h1) (fun q => hr (h.rows b hb q))).trans (h.block b hb hn hr),
   fun b hb q => h.rows b hb (k.rows b (Nat.lt_of_lt_of_le hb h.size) q)⟩

section
variable {P : SP} {r B : Nat} {s : SSt} {W W' : World} {v : Value} {xs : List Int} {K : List Nat}
theorem SI.down {P : SP} {s : SSt} {W : World} (hG : P.Good) {r r' : Nat} (h : SI P r s W) (k : r' ≤ r) : SI P r' s W := by
  obtain ⟨d, rfl⟩ : ∃ d, r = r' + d := ⟨r - r', by omega⟩
  clear k
  induction d with
  | zero => exact h
  | succ d ih => exact ih ((sm_ok P hG).less _ _ _ h)

/-- a list that the stack told: the machine never writes it. -/
structure LRow (P : SP) (B : Nat) (v : Value) (xs : List Int) (W : World) : Prop where
  row : IRow W B v xs
  out : ∀ g, v.ownBlock = some g → g ∉ P.L ∧ ¬ Rw P.ws W g
theorem LRow.fr (h : LRow P B v xs W) (f : Fr P.L P.ws W W') : LRow P B v xs W' :=
  ⟨h.row.kept fun g hg => f.block g (h.row.lt g hg).2 (h.out g hg).1 (h.out g hg).2, fun g hg => ⟨(h.out g hg).1, f.row (h.row.lt g hg).2 (h.out g hg).2⟩⟩
theorem LRow.turns (hG : P.Good) (hi : SI P r s W) (h : LRow P B v xs W) (t : Turns K W W') (hK : ∀ b, b ∈ K → b ∉ P.L) (hn : ∀ g, v.ownBlock = some g → g ∉ K) : LRow P B v xs W' :=
  ⟨h.row.kept fun g hg => t.block g (h.row.lt g hg).2 (hn g hg), fun g hg => ⟨(h.out g hg).1, fun q => (h.out g hg).2 (SI.rows_turns hG hi t hK q)⟩⟩
theorem LRow.new (hG : P.Good) (hi : SI P r s W) (h : IRow W' W.heap.size v xs) (b : Below W.heap.size W W') (hB : B ≤ W.heap.size) : LRow P B v xs W' := by
  have t : Turns [] W W' := Turns.of_below b (Nat.le_refl _)
  refine ⟨h.less hB, fun g hg => ⟨fun hm => ?_, fun q => ?_⟩⟩
  · have h1 := (h.lt g hg).1
    have h2 := ((sm_ok P hG).okw _ _ _ hi).lt g hm
    omega
  · have h1 := (h.lt g hg).1
    obtain ⟨_, cur, hl⟩ := hi.rw (SI.rows_turns hG hi t (by simp) q)
    have := hl.lt
    omega
theorem VRow.frE {E : TypeId} {vs : List Value} (h : SI P r s W) (x : VRow W B E v vs) (f : Fr P.L P.ws W W') (h1 : E ≠ 101) (h2 : E ≠ 111) (h3 : E ≠ 34) (h4 : E ≠ 3) (h5 : E ≠ 31 ∨ ∀ j, j < P.nw → P.gp j = none) : VRow W' B E v vs :=
  x.kept fun g hg => by
    obtain ⟨_, cur, hl⟩ := x.lies hg
    have := h.apart_ty hl h1 h2 h3 h4 h5
    exact f.block g hl.lt this.1 this.2
end

/-- StackBack's three tasks: their acts; what is in hand, and what lies on the stack, ahead of each. -/
def bsAt (k m0 : Nat) : Nat → List Bool
  | 0 => List.replicate k false
  | 1 => List.replicate m0 true
  | _ => List.replicate m0 false
def hsAt (k m0 : Nat) : Nat → List Int
  | 0 => upto k
  | 2 => (upto k).take m0
  | _ => []
def tsAt (k m0 : Nat) : Nat → List Int
  | 0 => []
  | 2 => (upto k).drop m0
  | _ => upto k
theorem back_step {k m0 j : Nat} (hm : m0 ≤ k) (hj : j < 3) : simA (bsAt k m0 j) (hsAt k m0 j) (tsAt k m0 j) = (hsAt k m0 (j + 1), tsAt k m0 (j + 1)) ∧ finds (bsAt k m0 j) (hsAt k m0 j) (tsAt k m0 j) := by
  obtain ⟨h0, h1, h2⟩ := back_all k m0 hm
  rcases (by omega : j = 0 ∨ j = 1 ∨ j = 2) with rfl | rfl | rfl
  · exact h0
  · exact h1
  · exact h2
theorem bsAt_len {k m0 j : Nat} (hm : m0 ≤ k) : (bsAt k m0 j).length ≤ k := by
  unfold bsAt
  split <;> simp <;> omega
def slAt (pv tv kv : Value) : Nat → Value
  | 0 => pv
  | 1 => tv
  | _ => kv

/-- in StackBack's last loop: j tasks are through. -/
structure Bk (w0 : World) (P : SP) (bx B0 k m0 g3 : Nat) (pv tv kv : Value) (j : Nat) (lv : Value) (W : World) : Prop where
  si : ∃ s, SI P (200 * (3 - j)) s W ∧ One k s.l (s.hs 0) (tsAt k m0 j) ∧ s.hs 0 = hsAt k m0 j ∧ s.wr 0 = false
  box : (SM P).Bx W bx 27 (stC P)
  sl : ∀ i, i < 3 → VRow W B0 4 (slAt pv tv kv i) ((bsAt k m0 i).map Value.bool)
  all : Lies W g3 22 #[pv, tv, kv]
  lists : ∃ vs, VRow W B0 31 lv vs ∧ vs.length = j ∧ ∀ i u, vs[i]? = some u → LRow P B0 u (tsAt k m0 (i + 1)) W
  le : j ≤ 3
  be : Below B0 w0 W

theorem Bk.zero {w0 : World} {P : SP} {bx B0 k m0 : Nat} {pv tv : Value} {W : World} (hG : P.Good) (h : There w0 P bx B0 k m0 m0 pv tv W) (hB : B0 ≤ W.heap.size) (hm : m0 ≤ 1000) :
    Bk w0 P bx B0 k m0 (W.heap.size + 1 + 1) pv tv (.slice (some ⟨W.heap.size, 0, none⟩) m0 m0) 0 (.slice (some ⟨W.heap.size + 1, 0, none⟩) 0 0) (((W.alloc (.cells ((List.replicate m0 false).map Value.bool).toArray 4)).alloc (.cells #[] 31)).alloc (.cells #[pv, tv, .slice (some ⟨W.heap.size, 0, none⟩) m0 m0] 22)) := by
  obtain ⟨s, hi, e1, e2, e3, e4⟩ := h.si
  obtain ⟨X1, hX1⟩ : ∃ X1, W.alloc (.cells ((List.replicate m0 false).map Value.bool).toArray 4) = X1 := ⟨_, rfl⟩
  have v0 : VRow X1 B0 4 (.slice (some ⟨W.heap.size, 0, none⟩) m0 m0) ((List.replicate m0 false).map Value.bool) := by rw [← hX1]; exact VRow.made W m0 hm hB
  have k1 : Turns [] W X1 := by rw [← hX1]; exact (Turns.refl _ _).alloc _
  have z1 : X1.heap.size = W.heap.size + 1 := by rw [← hX1]; simp
  rw [hX1]
  obtain ⟨X2, hX2⟩ : ∃ X2, X1.alloc (.cells #[] 31) = X2 := ⟨_, rfl⟩
  have v1 : VRow X2 B0 31 (.slice (some ⟨W.heap.size + 1, 0, none⟩) 0 0) [] := by rw [← hX2, ← z1]; exact VRow.empty X1 31 (by omega)
  have k2 : Turns [] X1 X2 := by rw [← hX2]; exact (Turns.refl _ _).alloc _
  have z2 : X2.heap.size = W.heap.size + 1 + 1 := by rw [← hX2]; simp [z1]
  rw [hX2]
  have k3 : Turns [] X2 (X2.alloc (.cells #[pv, tv, .slice (some ⟨W.heap.size, 0, none⟩) m0 m0] 22)) := (Turns.refl _ _).alloc _
  have kk := (k1.trans k2).trans k3
  refine ⟨⟨s, hi.turns kk (by simp), ?_, e1, e3⟩, Gm.Bx.turns hG hi h.box kk (by simp) (by simp), fun i hi3 => ?_, Lies.new_of _ _ z2, ⟨[], v1.turns k3 (by simp), rfl, fun i u hu => by simp at hu⟩, by omega, h.be.trans (kk.below (by simp) hB)⟩
  · rw [e2, e1]; exact one_start k
  · rcases (by omega : i = 0 ∨ i = 1 ∨ i = 2) with rfl | rfl | rfl
    · exact h.puts.turns kk (by simp)
    · exact h.there.turns kk (by simp)
    · exact v0.turns (k2.trans k3) (by simp)

theorem Bk.next {w0 : World} {P : SP} {bx B0 k m0 g3 j : Nat} {pv tv kv lv lv' u : Value} {W W9 W10 W11 : World} {vs : List Value} {s' : SSt} (hG : P.Good) (hgp : ∀ j, j < P.nw → P.gp j = none) (hPB : B0 ≤ P.B) (h : Bk w0 P bx B0 k m0 g3 pv tv kv j lv W) (hj : j < 3) (hB : B0 ≤ W.heap.size)
    (f : Fr P.L P.ws W W9) (hi : SI P (200 * (3 - (j + 1))) s' W9) (ho : One k s'.l (s'.hs 0) (tsAt k m0 (j + 1))) (hh : s'.hs 0 = hsAt k m0 (j + 1)) (hw : s'.wr 0 = false)
    (b : Below W9.heap.size W9 W10) (hr : IRow W10 W9.heap.size u (tsAt k m0 (j + 1)))
    (hvs : VRow W B0 31 lv vs ∧ vs.length = j ∧ ∀ i u, vs[i]? = some u → LRow P B0 u (tsAt k m0 (i + 1)) W)
    (x : VRow W11 B0 31 lv' (vs ++ [u])) (t : Turns lv.ownBlock.toList W10 W11) : Bk w0 P bx B0 k m0 g3 pv tv kv (j + 1) lv' W11 := by
  obtain ⟨s, hi0, _⟩ := h.si
  have ap : ∀ {X : World} {r : Nat} {sx : SSt} {g : Nat} {cs : Array Value}, SI P r sx X → Lies X g 31 cs → g ∉ P.L ∧ ¬ Rw P.ws X g := fun h1 h2 => h1.apart_ty h2 (by decide) (by decide) (by decide) (by decide) (.inr hgp)
  have ab : ∀ {X : World} {r : Nat} {sx : SSt} {g : Nat} {cs : Array Value}, SI P r sx X → Lies X g 22 cs → g ∉ P.L ∧ ¬ Rw P.ws X g := fun h1 h2 => h1.apart_ty h2 (by decide) (by decide) (by decide) (by decide) (.inl (by decide))
  have t10 : Turns [] W9 W10 := Turns.of_below b (Nat.le_refl _)
  have hl9 : VRow W9 B0 31 lv vs := hvs.1.frE hi0 f (by decide) (by decide) (by decide) (by decide) (.inr hgp)
  have hl10 := hl9.turns t10 (by simp)
  have hi10 := hi.turns t10 (by simp)
  have hK : ∀ b, b ∈ lv.ownBlock.toList → b ∉ P.L ∧ ¬ Rw P.ws W10 b := fun b hb => by
    obtain ⟨_, cur, hl⟩ := hl10.lies (g := b) (by simpa using hb)
    exact ap hi10 hl
  have nL : ∀ {g : Nat} {ty : TypeId} {cs : Array Value}, Lies W10 g ty cs → ty ≠ 31 → g ∉ lv.ownBlock.toList := fun hl hne hm => by
    obtain ⟨_, cur, hl2⟩ := hl10.lies (g := _) (by simpa using hm)
    exact hl.unlike hl2 hne rfl
  have f10 : Fr P.L P.ws W W10 := f.trans (((sm_ok P hG).okw _ _ _ hi).fr (sm_ok P hG) t10)
  have box10 := h.box.mv f10.mv
  have irow : ∀ {g : Nat} {v : Value} {xs : List Int}, IRow W10 B0 v xs → v.ownBlock = some g → g ∉ lv.ownBlock.toList := fun hr hg => by
    rcases hr.own.2 with ⟨rfl, _⟩ | ⟨g', cap, cur, rfl, _, hb, _⟩
    · cases hg
    · simp [Value.ownBlock] at hg
      subst hg
      exact nL (ty := 3) hb (by decide)
  refine ⟨⟨s', hi10.turns t hK, ho, hh, hw⟩, Gm.Bx.turns hG hi10 box10 t (fun b hb => (hK b hb).1) (nL box10.l (by decide)), fun i hi3 => ?_, ?_, ⟨vs ++ [u], x, by simp [hvs.2.1], fun i y hy => ?_⟩, by omega, ?_⟩
  · have h1 := (h.sl i hi3).fr hi0 f10
    refine h1.turns t fun g hg => ?_
    obtain ⟨_, cur, hl⟩ := h1.lies hg
    exact nL hl (by decide)
  · have h1 := f10.lies h.all (ab hi0 h.all).1 (ab hi0 h.all).2
    exact h1.turn t (nL h1 (by decide))
  · by_cases hy2 : i < vs.length
    · rw [List.getElem?_append_left hy2] at hy
      have h1 := (hvs.2.2 i y hy).fr f10
      exact h1.turns hG hi10 t (fun b hb => (hK b hb).1) (fun g hg => irow h1.row hg)
    · rw [List.getElem?_append_right (by omega)] at hy
      have hi0' : i = vs.length := by
        rcases Nat.lt_or_ge vs.length i with h1 | h1
        · rw [List.getElem?_eq_none (by simp; omega)] at hy; cases hy
        · omega
      rw [hi0', Nat.sub_self] at hy
      simp at hy
      subst hy
      have h1 : LRow P B0 u (tsAt k m0 (j + 1)) W10 := LRow.new hG hi hr b (Nat.le_trans hB f.size)
      rw [hi0', hvs.2.1]
      exact h1.turns hG hi10 t (fun b hb => (hK b hb).1) (fun g hg => irow h1.row hg)
  · have s9 := Nat.le_trans hB f.size
    exact ((h.be.trans ((hi0.below hG (fun b hb => .inl hb) f).mono hPB)).trans (b.mono s9)).trans (t.below (fun b hb => (hl10.lies (by simpa using hb)).1) (Nat.le_trans s9 b.size))

theorem ints_info8 : (Try.prog.info? 31).map (fun i => (i.zero, i.size, i.bytes)) = some (some (.slice none 0 0), 1, 24) := by kernel_rfl

end Go.Proofs.Ythjbmaeoogophaa

/- Slices of bools that are handed in. -/
namespace Go.Proofs.Ythjbmaeoogophaa
open Go.RowKit Go.ChangeShapes Go.WideShapes

/-- bools that are handed in, as they lie in the world. -/
structure BRow (w : World) (A : Option Addr) (bs : List Bool) : Prop where
  at_ : 0 < bs.length → ∃ a, A = some a ∧ a.block < w.heap.size ∧ ∀ i, i < bs.length → w.cell? (a.add i) = some (.bool (bs.getD i false))
theorem BRow.keep {w w' : World} {A : Option Addr} {bs : List Bool} (h : BRow w A bs) (k : Below w.heap.size w w') : BRow w' A bs :=
  ⟨fun hn => by
    obtain ⟨a, e, hb, hc⟩ := h.at_ hn
    exact ⟨a, e, Nat.lt_of_lt_of_le hb k.size, fun i hi => (k.cell (by rw [add_block]; exact hb)).trans (hc i hi)⟩⟩


theorem BRow.opened {H : Type} {enc : TypeId × Value → H} {P : Program} {w : World} {base : Nat} {held : Bool} {t e : TypeId} {a : Option Addr} {n c : Nat} {d : DataW H} {p : List MemPlace} (ht : P.underlying t = some (.slice e)) (he : P.underlying e = some .bool) (hc : P.cellsOf e = 1)
    (h : DataW.Trod enc P w base (fun _ => true) held t (.slice a n c) d p) : ∃ bs, bs.length = n ∧ BRow w a bs := by
  obtain ⟨fuel, hf⟩ := h
  rcases Go.Deep.open_bools ht he hc hf with ⟨hcs, _⟩ | ⟨x, l, cp, B, hcs, _, hl, hm, _, hcell⟩
  · simp [Value.cells] at hcs
    obtain ⟨rfl, rfl, rfl⟩ := hcs
    exact ⟨[], rfl, ⟨fun h => by simp at h⟩⟩
  · simp [Value.cells] at hcs
    obtain ⟨rfl, rfl, rfl⟩ := hcs
    refine ⟨(List.range n).map B, by simp, ⟨fun hn => ?_⟩⟩
    have hn : 0 < n := by simpa using hn
    have h0 := cell_block (hcell 0 (by omega))
    rw [add_block] at h0
    refine ⟨x, rfl, h0, fun i hi => ?_⟩
    have hi : i < n := by simpa using hi
    rw [hcell i (by omega)]
    simp [List.getD, hi]

end Go.Proofs.Ythjbmaeoogophaa

/- Layer 8: StackAlone's rounds: what holds there. -/
namespace Go.Proofs.Ythjbmaeoogophaa
open Go.RowKit Go.ChangeShapes Go.WideShapes
set_option maxRecDepth 100000

/-- the same machine; the law may write these blocks between steps. -/
def SP.with (P : SP) (ex : List Nat) : SP := { P with ex := ex }
section
variable {P : SP} {r B : Nat} {s : SSt} {W W' : World} {K ex : List Nat}
theorem SP.Good.with (h : P.Good) (ex : List Nat) : (P.with ex).Good := ⟨h.low, h.inj, h.ginj, h.sep, h.few⟩
theorem SI.with (h : SI P r s W) (he : ∀ b, b ∈ ex → b < W.heap.size) : SI (P.with ex) r s W := ⟨h.ar, h.room, h.ok, h.wk, h.gt, h.hb, h.size, h.apart, he⟩
theorem SI.bare (h : SI (P.with ex) r s W) (hP : P.ex = []) : SI P r s W := ⟨h.ar, h.room, h.ok, h.wk, h.gt, h.hb, h.size, h.apart, fun b hb => by rw [hP] at hb; cases hb⟩

/-- a slice that the document's answer told. -/
structure MRow (P : SP) (mv : Value) (ts : List Int) (hv : Value) (W : World) : Prop where
  at_ : ∃ A cp, mv = .slice A ts.length cp ∧ ts.length ≤ cp ∧ Row W .i64 A ts.length ts ∧ ∀ a, A = some a → 0 < ts.length → a.block ∉ P.L ∧ ¬ Rw P.ws W a.block ∧ hv.ownBlock ≠ some a.block
theorem Row.heap {w w' : World} {A : Option Addr} {n : Nat} {xs : List Int} (h : Row w .i64 A n xs) (hs : w.heap.size ≤ w'.heap.size) (k : ∀ a, A = some a → 0 < n → w'.heap[a.block]? = w.heap[a.block]?) : Row w' .i64 A n xs :=
  ⟨h.len, h.most, h.wf, fun hn => by
    obtain ⟨a, e, hb, hc⟩ := h.at_ hn
    exact ⟨a, e, Nat.lt_of_lt_of_le hb hs, fun i hi => (World.cell?_of_block (w := w) (by rw [add_block]; exact k a e hn)).trans (hc i hi)⟩⟩
theorem MRow.fr {mv hv : Value} {ts : List Int} (h : MRow P mv ts hv W) (f : Fr P.L P.ws W W') : MRow P mv ts hv W' := by
  obtain ⟨A, cp, e, h1, h2, h3⟩ := h.at_
  have hlt : ∀ a, A = some a → 0 < ts.length → a.block < W.heap.size := fun a ea hn => by
    obtain ⟨a', e', hb, _⟩ := h2.at_ hn
    rw [ea] at e'
    injection e' with e'
    subst e'
    exact hb
  exact ⟨A, cp, e, h1, h2.heap f.size fun a ea hn => f.block _ (hlt a ea hn) (h3 a ea hn).1 (h3 a ea hn).2.1, fun a ea hn => ⟨(h3 a ea hn).1, f.row (hlt a ea hn) (h3 a ea hn).2.1, (h3 a ea hn).2.2⟩⟩
/-- hands were appended to, or cut. -/
theorem MRow.turn (hG : P.Good) (hi : SI P r s W) {mv hv hv' : Value} {ts : List Int} (h : MRow P mv ts hv W) (t : Turns hv.ownBlock.toList W W') (hK : ∀ b, b ∈ hv.ownBlock.toList → b ∉ P.L) (hn : ∀ g, hv'.ownBlock = some g → hv.ownBlock = some g ∨ W.heap.size ≤ g) : MRow P mv ts hv' W' := by
  obtain ⟨A, cp, e, h1, h2, h3⟩ := h.at_
  have hlt : ∀ a, A = some a → 0 < ts.length → a.block < W.heap.size := fun a ea hp => by
    obtain ⟨a', e', hb, _⟩ := h2.at_ hp
    rw [ea] at e'
    injection e' with e'
    subst e'
    exact hb
  exact ⟨A, cp, e, h1, h2.heap t.size fun a ea hp => t.block _ (hlt a ea hp) (fun hm => (h3 a ea hp).2.2 (by simpa using hm)), fun a ea hp => ⟨(h3 a ea hp).1, fun q => (h3 a ea hp).2.1 (SI.rows_turns hG hi t hK q), fun e2 => by
    rcases hn _ e2 with h4 | h4
    · exact (h3 a ea hp).2.2 h4
    · have := hlt a ea hp; omega⟩⟩
theorem MRow.nil (hv : Value) : MRow P (.slice none 0 0) [] hv W := ⟨none, 0, rfl, Nat.le_refl _, ⟨rfl, by simp, by simp, fun h => by simp at h⟩, fun a e => by cases e⟩
theorem MRow.tail {A : Option Addr} {cp : Nat} {i : Int} {ts : List Int} {hv : Value} (h : MRow P (.slice A (ts.length + 1) cp) (i :: ts) hv W) : MRow P (.slice (tailO A cp) ts.length (cp - 1)) ts hv W := by
  obtain ⟨A', cp', e, h1, h2, h3⟩ := h.at_
  injection e with e1 _ e3
  subst e1
  subst e3
  have h1 : ts.length + 1 ≤ cp := h1
  refine ⟨_, _, rfl, by omega, Row.tail1 (n := ts.length) h2 h1, fun a ea hp => ?_⟩
  unfold tailO at ea
  rw [if_neg (by omega)] at ea
  obtain ⟨a', rfl, rfl⟩ := Option.map_eq_some_iff.1 ea
  rw [add_block]
  exact h3 a' rfl (by simp)
theorem MRow.row {mv hv : Value} {ts : List Int} (h : MRow P mv ts hv W) : ∃ A cp, mv = .slice A ts.length cp ∧ Row W .i64 A ts.length ts := by
  obtain ⟨A, cp, e, _, h2, _⟩ := h.at_
  exact ⟨A, cp, e, h2⟩
/-- what was just made by a call. -/
theorem MRow.new (hG : P.Good) (hi : SI P r s W) {v hv : Value} {xs : List Int} (h : IRow W' W.heap.size v xs) (b : Below W.heap.size W W') (hv1 : ∀ g, hv.ownBlock = some g → g < W.heap.size) : MRow P v xs hv W' := by
  have hL : LRow P W.heap.size v xs W' := LRow.new hG hi h b (Nat.le_refl _)
  obtain ⟨A, cp, e, hr⟩ := h.row
  obtain ⟨A', cp', e', hle⟩ := own_slice h.own
  rw [e] at e'
  injection e' with e1 _ e3
  subst e1
  subst e3
  refine ⟨A, cp, e, hle, hr, fun a ea hp => ?_⟩
  have ho : v.ownBlock = some a.block := by
    rcases h.own.2 with ⟨h0, h1⟩ | ⟨g, cap, cur, h0, _⟩
    · omega
    · rw [h0] at e
      injection e with e _ _
      rw [ea] at e
      injection e with e
      rw [h0, ← e]
      rfl
  refine ⟨(hL.out _ ho).1, (hL.out _ ho).2, fun e2 => ?_⟩
  have h1 := hv1 _ e2
  have h2 := (h.lt _ ho).1
  omega

theorem LRow.lt {v : Value} {xs : List Int} (h : LRow P B v xs W) : ∀ g, v.ownBlock = some g → g < W.heap.size := fun g hg => (h.row.lt g hg).2
/-- the law's own row, appended to. -/
theorem LRow.grow (hG : P.Good) (hi : SI P r s W) {hv : Value} {xs ys : List Int} (h : LRow P B hv xs W) {g cap n : Nat} {W9 : World} (ho : W9.ownsRow B 3 1 (.slice (some ⟨g, 0, none⟩) n cap) n (ys.map (Value.int .i64))) (hy : ys.length = n) (hw : Ints ys) (hg : W.grownBy W9 hv.ownBlock) (hat : hv.ownBlock = some g ∨ W.heap.size ≤ g) :
    LRow P B (.slice (some ⟨g, 0, none⟩) n cap) ys W9 ∧ Turns hv.ownBlock.toList W W9 := by
  have t : Turns hv.ownBlock.toList W W9 := ⟨hg.os, hg.tape, hg.output, hg.size, fun b hb hn => hg.block b hb (fun e => hn (by rw [← e]; simp))⟩
  have hK : ∀ b, b ∈ hv.ownBlock.toList → b ∉ P.L := fun b hb => (h.out b (by simpa using hb)).1
  subst hy
  refine ⟨⟨⟨ho, hw⟩, fun b hb => ?_⟩, t⟩
  simp [Value.ownBlock] at hb
  subst hb
  rcases hat with h1 | h1
  · exact ⟨(h.out _ h1).1, fun q => (h.out _ h1).2 (SI.rows_turns hG hi t hK q)⟩
  · refine ⟨fun hm => ?_, fun q => ?_⟩
    · have := ((sm_ok P hG).okw _ _ _ hi).lt _ hm
      omega
    · obtain ⟨_, cur, hl⟩ := hi.rw (SI.rows_turns hG hi t hK q)
      have := hl.lt
      omega
/-- the law's own row, cut at its end. -/
theorem LRow.cut {A : Option Addr} {n cap : Nat} {ys : List Int} {y : Int} (h : LRow P B (.slice A (n + 1) cap) (ys ++ [y]) W) (hy : ys.length = n) : LRow P B (.slice A n cap) ys W := by
  have ho : W.ownsRow B 3 1 (.slice A (n + 1) cap) (n + 1) (intVs ys ++ intVs [y]) := by
    have := h.row.own
    rw [List.length_append, hy, List.map_append] at this
    exact this
  have hA : ∃ g, A = some ⟨g, 0, none⟩ := by
    rcases ho.2 with ⟨h0, _⟩ | ⟨g, c, cur, h0, _⟩
    · cases h0
    · injection h0 with h0 _ _
      exact ⟨g, h0⟩
  obtain ⟨g, rfl⟩ := hA
  refine ⟨⟨?_, fun x hx => h.row.ints x (List.mem_append.2 (.inl hx))⟩, fun b hb => h.out b hb⟩
  rw [hy]
  exact ownsRow_pop (size := 1) (by rw [List.length_map, hy, Nat.mul_one]) ho
end

/-- in StackAlone's loop: t acts are through. -/
structure Al (w0 : World) (P : SP) (bx B0 k t : Nat) (mv hv : Value) (W : World) : Prop where
  si : ∃ s ts, SI P (6 * (60 - t)) s W ∧ One k s.l (s.hs 0) ts ∧ s.wr 0 = false ∧ MRow P mv ts hv W ∧ LRow P B0 hv (s.hs 0) W
  box : (SM P).Bx W bx 27 (stC P)
  be : Below B0 w0 W
  le : t ≤ 60

/-- ahead of its act's steps: a task at block tk, whose code is begun. -/
structure Ax (w0 : World) (P : SP) (bx B0 m tk : Nat) (ex : List Nat) (q : SPr) (s : SSt) (W : World) : Prop where
  si : SI (P.with ex) m s W
  task : (SM (P.with ex)).Task m q 0 tk W
  w : (SM (P.with ex)).W q s
  box : (SM P).Bx W bx 27 (stC P)
  be : Below B0 w0 W
  low : B0 ≤ tk
theorem Ax.turns {w0 : World} {P : SP} {bx B0 m tk : Nat} {ex : List Nat} {q : SPr} {s : SSt} {W W' : World} (hG : P.Good) (hP : P.ex = []) (h : Ax w0 P bx B0 m tk ex q s W) (hB : B0 ≤ W.heap.size) (t : Turns ex W W') (hx : ∀ b, b ∈ ex → b ∉ P.L ∧ ¬ Rw P.ws W b ∧ b ≠ tk ∧ b ≠ bx ∧ B0 ≤ b) : Ax w0 P bx B0 m tk ex q s W' := by
  have hi := h.si.bare hP
  have hi' := hi.turns t fun b hb => ⟨(hx b hb).1, (hx b hb).2.1⟩
  refine ⟨hi'.with fun b hb => Nat.lt_of_lt_of_le (h.si.exl b hb) t.size, h.task.keep (t.block _ h.task.lt fun hm => (hx _ hm).2.2.1 rfl) ?_, h.w, Gm.Bx.turns hG hi h.box t (fun b hb => (hx b hb).1) (fun hm => (hx _ hm).2.2.2.1 rfl), h.be.trans (t.below (fun b hb => (hx b hb).2.2.2.2) hB), h.low⟩
  exact Mv.of_turns t (fun b hb => .inl (List.mem_append.2 (.inr hb))) fun x hxm => ⟨hi.block_lt hxm, fun hm => (hx _ hm).1 ((sm_ok P hG).cells x hxm)⟩

/-- what the act's steps will do. -/
def Acts8 (P : SP) (ex : List Nat) (k : Nat) (q : SPr) (s : SSt) (hs ts : List Int) : Prop :=
  (SM (P.with ex)).ended ((SM (P.with ex)).runN q s 0 6).1 = true ∧ One k ((SM (P.with ex)).runN q s 0 6).2.1.l (((SM (P.with ex)).runN q s 0 6).2.1.hs 0) ts ∧ ((SM (P.with ex)).runN q s 0 6).2.1.hs 0 = hs ∧ ((SM (P.with ex)).runN q s 0 6).2.1.wr 0 = false

structure Am (w0 : World) (P : SP) (bx B0 k m tk : Nat) (mv hv : Value) (W : World) : Prop where
  si : ∃ (ex : List Nat) (q : SPr) (s : SSt) (hs ts : List Int), Ax w0 P bx B0 m tk ex q s W ∧ Acts8 P ex k q s hs ts ∧ MRow P mv ts hv W ∧ LRow P B0 hv hs W
  off : (∀ A n c a, mv = .slice A n c → A = some a → 0 < n → a.block ≠ tk) ∧ hv.ownBlock ≠ some tk

section
variable {P : SP} {r B tk : Nat} {s : SSt} {W W' : World}
theorem MRow.past {mv hv : Value} {ts : List Int} (h : MRow P mv ts hv W) (f : Fr (tk :: P.L) P.ws W W') (ht : ∀ A n c a, mv = .slice A n c → A = some a → 0 < n → a.block ≠ tk) : MRow P mv ts hv W' := by
  obtain ⟨A, cp, e, h1, h2, h3⟩ := h.at_
  have hlt : ∀ a, A = some a → 0 < ts.length → a.block < W.heap.size := fun a ea hn => by
    obtain ⟨a', e', hb, _⟩ := h2.at_ hn
    rw [ea] at e'
    injection e' with e'
    subst e'
    exact hb
  exact ⟨A, cp, e, h1, h2.heap f.size fun a ea hn => f.block _ (hlt a ea hn) (fun hm => by
    rcases List.mem_cons.1 hm with h4 | h4
    · exact ht _ _ _ _ e ea hn h4
    · exact (h3 a ea hn).1 h4) (h3 a ea hn).2.1, fun a ea hn => ⟨(h3 a ea hn).1, f.row (hlt a ea hn) (h3 a ea hn).2.1, (h3 a ea hn).2.2⟩⟩
theorem LRow.past {v : Value} {xs : List Int} (h : LRow P B v xs W) (f : Fr (tk :: P.L) P.ws W W') (ht : v.ownBlock ≠ some tk) : LRow P B v xs W' :=
  ⟨h.row.kept fun g hg => f.block g (h.row.lt g hg).2 (fun hm => by
    rcases List.mem_cons.1 hm with h4 | h4
    · exact ht (by rw [hg, h4])
    · exact (h.out g hg).1 h4) (h.out g hg).2, fun g hg => ⟨(h.out g hg).1, f.row (h.row.lt g hg).2 (h.out g hg).2⟩⟩
theorem Gm.Bx.past {b : Nat} {t : TypeId} {cs : Array Value} (x : (SM P).Bx W b t cs) (f : Fr (tk :: P.L) P.ws W W') (hb : b ≠ tk) : (SM P).Bx W' b t cs :=
  ⟨f.lies x.l (fun hm => by
    rcases List.mem_cons.1 hm with h4 | h4
    · exact hb h4
    · exact x.out h4) x.row, x.out, f.row x.l.lt x.row, x.ty, x.outX⟩
theorem W_mark {q : SPr} {j k : Nat} {b : Bool} (h : (SM P).W q s) : (SM P).W q (s.mark j k b) := by
  have e : (s.mark j k b).hs = s.hs := by
    unfold SSt.mark
    split
    · rfl
    · split <;> rfl
  obtain ⟨i, m, l⟩ := q
  cases m <;> first | trivial | (show (s.mark j k b).hs i ≠ []; rw [e]; exact h)
end

/-- 'append([]int{}, l...)'. -/
theorem wpList_copy {W : World} {B' : Nat} {xs : List Int} {ops : Array Oper} {rest : List Oper} {o : Oper} {a : Act} {Q : Exit → Act → World → Prop} (hgd : o.guard = none) (s x : Operand) (ho : o.op = .call { callee := .builtin .append, args := #[s, x], argTypes := #[31, 31] })
    (hs : a.eval s = .slice (some ⟨W.heap.size, 0, none⟩) 0 0) (v : Value) (hx : a.eval x = v) (hr : W.ownsRow B' 3 1 v xs.length (xs.map (Value.int .i64))) (hi : Ints xs) (hl : xs.length ≤ 1000)
    (hK : ∀ v' w', IRow w' W.heap.size v' xs → Turns [] W w' → wpList Try.prog ops Q rest (a.put o.dst v') w') : wpList Try.prog ops Q (o :: rest) a (W.alloc (.cells #[] 3)) := by
  obtain ⟨i0, hi0, hz0, hz1, hz2⟩ := info_parts int_info4
  have h0 : (W.alloc (.cells #[] 3)).ownsRow W.heap.size 3 1 (.slice (some ⟨W.heap.size, 0, none⟩) 0 0) 0 [] :=
    ⟨rfl, .inr ⟨W.heap.size, 0, #[], rfl, Nat.le_refl _, heap_alloc_new W _, Nat.le_refl _, by simp [maxLen], rfl, rfl⟩⟩
  have k0 : Turns [] W (W.alloc (.cells #[] 3)) := (Turns.refl _ _).alloc _
  by_cases hn : xs.length = 0
  · obtain rfl := List.length_eq_zero_iff.1 hn
    obtain ⟨A, c, rfl, _⟩ := own_slice hr
    exact wpList_append_zero hgd s x 31 ho 3 i0 Try.underlying31 hi0 ⟨W.heap.size, 0, none⟩ 0 0 A c (Nat.le_refl _) hs hx (hK _ _ ⟨h0, Ints.nil⟩ k0)
  · obtain ⟨g, c, rfl, _, hglt⟩ := hr.form (by omega)
    refine wpList_append_lies _ hgd s x 31 ho W.heap.size 3 i0 _ 1 8 Try.underlying31 hi0 hz0 hz1 hz2 rfl (by omega) _ 0 [] hs h0 ⟨g, 0, none⟩ xs.length c (xs.map (Value.int .i64)) hx (by simp) ?_ ?_ (by omega) (by simp only [maxLen]; omega) (by omega) (by simp) _ rfl ?_
    · intro j u hu
      have := hr.cells (g := g) rfl j u hu
      exact (k0.cell (by rw [add_block]; exact hglt) (by simp)).trans this
    · intro u hu
      obtain ⟨j, _, rfl⟩ := List.mem_map.1 hu
      rfl
    · intro g' cap w' h1 h2 h3 _
      rw [Nat.zero_add] at h1 ⊢
      refine hK _ _ ⟨by simpa using h1, hi⟩ ⟨h2.os, h2.tape, h2.output, ?_, fun b hb _ => ?_⟩
      · have := h2.size
        simp at this
        omega
      · rw [h2.block b (by simp; omega) (by simp [Value.ownBlock]; omega)]
        exact Below.heap_alloc W _ b hb

section
variable {w0 : World} {P : SP} {bx B0 k m tk : Nat} {ex : List Nat} {q : SPr} {s : SSt} {W : World} {mv hv : Value} {hs ts : List Int} {i : Int}
theorem Am.same (hG : P.Good) (hP : P.ex = []) (ax : Ax w0 P bx B0 m tk ex q s W) (hx : ∀ b, b ∈ ex → b ∉ P.L ∧ ¬ Rw P.ws W b ∧ b ≠ tk ∧ b ≠ bx ∧ B0 ≤ b) (hB : B0 ≤ W.heap.size) (act : Acts8 P ex k q s hs ts) (mr : MRow P mv ts hv W) (lr : LRow P B0 hv hs W)
    (o1 : ∀ A n c a, mv = .slice A n c → A = some a → 0 < n → a.block ≠ tk) (o2 : hv.ownBlock ≠ some tk) {W' : World} (t : Turns [] W W') : Am w0 P bx B0 k m tk mv hv W' := by
  have f := ((sm_ok P hG).okw _ _ _ (ax.si.bare hP)).fr (sm_ok P hG) t
  exact ⟨⟨ex, q, s, hs, ts, ax.turns hG hP hB (t.more (by simp)) hx, act, mr.fr f, lr.fr f⟩, o1, o2⟩

theorem Am.pop (hG : P.Good) (hP : P.ex = []) {A : Option Addr} {cp : Nat} (ax : Ax w0 P bx B0 m tk ex q s W) (hex : hv.ownBlock.toList = ex) (hx : ∀ b, b ∈ ex → b ∉ P.L ∧ ¬ Rw P.ws W b ∧ b ≠ tk ∧ b ≠ bx ∧ B0 ≤ b) (hB : B0 ≤ W.heap.size) (act : Acts8 P ex k q s (hs ++ [i]) ts) (mr : MRow P (.slice A (ts.length + 1) cp) (i :: ts) hv W) (lr : LRow P B0 hv hs W)
    (o1 : ∀ A' n c a, Value.slice A (ts.length + 1) cp = .slice A' n c → A' = some a → 0 < n → a.block ≠ tk) (o2 : hv.ownBlock ≠ some tk) (hi : (Lit.int .i64 i).wf = true)
    {g cap : Nat} {w9 : World} (ho : w9.ownsRow B0 3 1 (.slice (some ⟨g, 0, none⟩) (hs.length + 1) cap) (hs.length + 1) (hs.map (Value.int .i64) ++ [.int .i64 i])) (hg : (W.drew.alloc (.cells #[.int .i64 i] 3)).grownBy w9 hv.ownBlock) (hat : hv.ownBlock = some g ∨ g = W.heap.size + 1) :
    Am w0 P bx B0 k m tk (.slice (tailO A cp) ts.length (cp - 1)) (.slice (some ⟨g, 0, none⟩) (hs.length + 1) cap) w9 := by
  have t1 : Turns [] W (W.drew.alloc (.cells #[.int .i64 i] 3)) := ((Turns.refl [] W).drew).alloc _
  have htk := ax.task.lt
  have hi0 := ax.si.bare hP
  have f := ((sm_ok P hG).okw _ _ _ hi0).fr (sm_ok P hG) t1
  have hi1 := hi0.turns t1 (by simp)
  have lr1 := lr.fr f
  have mr1 := mr.fr f
  have ax1 := ax.turns hG hP hB (t1.more (by simp)) hx
  have hz : (W.drew.alloc (.cells #[.int .i64 i] 3)).heap.size = W.heap.size + 1 := by simp
  generalize (W.drew.alloc (.cells #[.int .i64 i] 3)) = W1 at *
  obtain ⟨lr2, t2⟩ := lr1.grow hG hi1 (ys := hs ++ [i]) (by rw [List.map_append]; exact ho) (by simp) (lr.row.ints.app (Ints.one hi)) hg (hat.imp id fun h => by omega)
  have hK : ∀ b, b ∈ hv.ownBlock.toList → b ∉ P.L := fun b hb => (hx b (hex ▸ hb)).1
  have mr2 := (mr1.turn hG hi1 t2 hK (hv' := .slice (some ⟨g, 0, none⟩) (hs.length + 1) cap) (fun g' hg' => by
    simp [Value.ownBlock] at hg'
    subst hg'
    rcases hat with h | h
    · exact .inl h
    · exact .inr (by omega))).tail
  rw [hex] at t2
  refine ⟨⟨ex, q, s, hs ++ [i], ts, ax1.turns hG hP (by omega) t2 (fun b hb => ?_), act, mr2, lr2⟩, fun A' n c a e1 e2 hn => ?_, fun e => ?_⟩
  · obtain ⟨h1, h2, h3⟩ := hx b hb
    exact ⟨h1, fun q => h2 (SI.rows_turns hG hi0 t1 (by simp) q), h3⟩
  · obtain ⟨A'', cp'', e3, h4, _⟩ := mr.at_
    injection e3 with e3 _ e4
    subst e4
    have h4 : ts.length + 1 ≤ cp := h4
    injection e1 with e1 e5 _
    subst e1
    subst e5
    unfold tailO at e2
    rw [if_neg (by omega)] at e2
    obtain ⟨a', ha', rfl⟩ := Option.map_eq_some_iff.1 e2
    rw [add_block]
    exact o1 A _ _ a' rfl ha' (by omega)
  · simp [Value.ownBlock] at e
    subst e
    rcases hat with h | h
    · exact o2 h
    · omega

theorem Am.push (hG : P.Good) (hP : P.ex = []) {A : Option Addr} {n cp : Nat} (ax : Ax w0 P bx B0 m tk ex q s W) (hx : ∀ b, b ∈ ex → b ∉ P.L ∧ ¬ Rw P.ws W b ∧ b ≠ tk ∧ b ≠ bx ∧ B0 ≤ b) (hB : B0 ≤ W.heap.size) (act : Acts8 P ex k q s hs (i :: ts)) (lr : LRow P B0 (.slice A (n + 1) cp) (hs ++ [i]) W) (hn : hs.length = n)
    (o2 : (Value.slice A (n + 1) cp).ownBlock ≠ some tk) {v : Value} {W0 W' : World} (t0 : Turns [] W W0) (h : IRow W' W0.heap.size v (i :: ts)) (b : Below W0.heap.size W0 W') : Am w0 P bx B0 k m tk v (.slice A n cp) W' := by
  have htk := ax.task.lt
  have hi0 := ax.si.bare hP
  have t : Turns [] W0 W' := Turns.of_below b (Nat.le_refl _)
  have f := ((sm_ok P hG).okw _ _ _ hi0).fr (sm_ok P hG) (t0.trans t)
  have f0 := ((sm_ok P hG).okw _ _ _ hi0).fr (sm_ok P hG) t0
  have hb : (Value.slice A n cp).ownBlock = (Value.slice A (n + 1) cp).ownBlock := by cases A <;> rfl
  have hm : MRow P v (i :: ts) (.slice A n cp) W' := MRow.new hG (hi0.turns t0 (by simp)) h b (fun g hg => (lr.fr f0).lt g (by rw [← hb]; exact hg))
  refine ⟨⟨ex, q, s, hs, i :: ts, ax.turns hG hP hB ((t0.trans t).more (by simp)) hx, act, hm, (lr.fr f).cut hn⟩, fun A' n' c a e1 e2 hp => ?_, by rw [hb]; exact o2⟩
  have hg : v.ownBlock = some a.block := by
    rcases h.own.2 with ⟨h0, _⟩ | ⟨g, cap, cur, h0, _⟩
    · rw [h0] at e1; injection e1 with e1 _ _; rw [← e1] at e2; cases e2
    · rw [h0] at e1
      injection e1 with e1 _ _
      rw [← e1] at e2
      injection e2 with e2
      rw [h0, ← e2]
      rfl
  have := (h.lt _ hg).1
  have := t0.size
  omega
end

end Go.Proofs.Ythjbmaeoogophaa

/- Layer 8: StackAlone. -/
namespace Go.Proofs.Ythjbmaeoogophaa
open Go.RowKit
set_option maxRecDepth 100000

/-- while the worker's hands are filled. -/
structure FillA (P : SP) (bx k m : Nat) (W0 W : World) : Prop where
  si : ∃ s, SI P 360 s W ∧ s.hs 0 = upto m ∧ s.l = List.replicate (k + 1) 0 ∧ s.wr 0 = false ∧ s.k = 0
  box : (SM P).Bx W bx 27 (stC P)
  fr : Fr P.L P.ws W0 W
  le : m ≤ k

set_option maxHeartbeats 1000000 in
theorem alone8 (nn : Nat) (hnn : nn < 256) (A : Option Addr) (n cp : Nat) (bs : List Bool) (hbs : bs.length = n) (w : World) (hrow : BRow w A bs) :
    Calls Try.prog 3 #[.int .u8 nn, .slice A n cp] w fun e w' => e = .returned (.bool true) ∧ Below w.heap.size w w' := by
  by_cases hn : 60 < n
  · have hn' : (60 : Int) < n := by omega
    go_enter Try.func3, Try.ntmps3
    go_wp2_with fail
    refine (speaks8_any _).mono ?_
    rintro e w1 ⟨rfl, b1⟩
    go_wp2_with fail
    refine (speaks8_any _).mono ?_
    rintro e w2 ⟨rfl, b2⟩
    go_wp2
    go_ret
    exact ⟨rfl, b1.trans (b2.mono b1.size)⟩
  · have hn' : ¬ ((60 : Int) < n) := by omega
    obtain ⟨k, hk⟩ : ∃ k, nn % 30 = k := ⟨_, rfl⟩
    have hk30 : k < 30 := by omega
    have hmod : ((nn : Int).tmod 30) = (k : Int) := by rw [← hk]; rw [Int.tmod_eq_emod_of_nonneg (by omega)]; omega
    have hwr : IntKind.i64.wrap (nn : Int) = nn := by rw [IntKind.wrap_i64]; omega
    have hwk : IntKind.i64.wrap (k : Int) = k := by rw [IntKind.wrap_i64]; omega
    go_enter Try.func3, Try.ntmps3
    go_wp2_with fail
    refine (speaks8_any _).mono ?_
    rintro e w1 ⟨rfl, b1⟩
    go_wp2_with fail
    refine (fresh8_any k (by omega) w1).mono ?_
    rintro e w2 ⟨p, c, rfl, ha, b2, hc, hp⟩
    have y2 := fun (a : Addr) (f : FuncId) (c : Array Value) (w : World) => run_store Try.prog w a (.func (.func f) #[] c) .plain rfl
    go_wp2_with fail
    clear y2
    have hz1 := ha.head.lt
    have hb2 := b2.size
    generalize hh : w2.heap.size = h2 at *
    obtain ⟨W4, hW4⟩ : ∃ W4, ((w2.alloc (.cells #[.pointer (some ⟨p, 0, none⟩), .int .i64 0, .func (.func 38) #[] #[]] 27)).alloc (.cells #[.slice none 0 0, .pointer none, .bool false, .bool true, .bool false] 34)) = W4 := ⟨_, rfl⟩
    have k4 : Turns [] w2 W4 := by rw [← hW4]; exact ((Turns.refl _ _).alloc _).alloc _
    have l1 : Lies W4 h2 27 #[.pointer (some ⟨p, 0, none⟩), .int .i64 0, .func (.func 38) #[] #[]] := by rw [← hW4]; exact (Lies.new_of _ _ (by simp [hh])).alloc _
    have l2 : Lies W4 (h2 + 1) 34 #[.slice none 0 0, .pointer none, .bool false, .bool true, .bool false] := by rw [← hW4]; exact Lies.new_of _ _ (by simp [hh])
    have ha4 := ha.turn k4 (by simp) (by simp)
    obtain ⟨P, hP⟩ : ∃ P, SP1 p c w1.heap.size k (h2 + 1) none = P := ⟨_, rfl⟩
    have hG : P.Good := by
      rw [← hP]
      exact SP1.good (by omega) hc (by omega) (fun x hx => by cases hx) (by omega) (by omega) (by omega)
    have hI : SI P 360 (SSt1 (List.replicate (k + 1) 0) 0 [] [] false true false) W4 := by
      rw [← hP]
      exact SI.one ha4 (by omega) (sok_zero k) l2 (World.ownsRow_nil _ _ _ _) (fun x hx => by cases hx) (by simp) (by simp)
    have gp : P.nw = 1 ∧ P.B = w1.heap.size ∧ P.n = k ∧ P.p = p ∧ P.c = c ∧ P.wb 0 = h2 + 1 ∧ P.gp 0 = none := by rw [← hP]; exact ⟨rfl, rfl, rfl, rfl, rfl, rfl, rfl⟩
    have hbx : (SM P).Bx W4 h2 27 (stC P) := by
      refine ⟨by unfold stC; rw [gp.2.2.2.1]; exact l1, fun hm => ?_, fun h => ?_, by decide, fun hm => ?_⟩
      · rw [← hP] at hm
        rcases SP.L_mem.1 hm with h | h | ⟨j, _, h⟩ | ⟨j, _, h⟩
        · have h : h2 = p := h
          omega
        · have h : h2 = c := h
          omega
        · have h : h2 + 1 = h2 := h
          omega
        · cases h
      · obtain ⟨_, cur, h3⟩ := hI.rw h
        exact h3.unlike l1 (by decide) rfl
      · rw [← hP] at hm; cases hm
    have hF : FillA P h2 k 0 W4 W4 := ⟨⟨_, hI, rfl, rfl, rfl, rfl⟩, hbx, Fr.refl _ _ _, Nat.zero_le _⟩
    have b4 : Below w1.heap.size w1 W4 := b2.trans (k4.below (by simp) (by omega))
    have HGP := Lib.hid gp
    have HEX : Hid (P.ex = []) := Lib.hid (by rw [← hP]; rfl)
    rw [hW4]
    clear hW4 k4 l1 l2 ha ha4 hP hbx gp hh hz1 hb2 b2 hk hmod hwr
    go_loopw [9, 39] (fun _ i W => ∃ m : Nat, i = .int .i64 (m : Int) ∧ FillA P h2 k m W4 W) (fun _ i _ => k - (intOf i).toNat)
    case atStart => exact ⟨0, rfl, hF⟩
    case round =>
      clear hF
      obtain ⟨m, rfl, hF⟩ := hrel
      generalize wr = W at *
      by_cases hm : m < k
      · obtain ⟨⟨s, hi, e1, e2, e3, e4⟩, hbx, hfr, _⟩ := hF
        obtain ⟨v, hl, ho⟩ := hi.wk 0 (by rw [HGP.out.1]; omega)
        have h1w : P.wb 0 = h2 + 1 := HGP.out.2.2.2.2.2.1
        have hj0 : 0 < P.nw := by rw [HGP.out.1]; omega
        have hlen : (s.hs 0).length = m := by rw [e1, upto_length]
        rw [h1w] at hl
        have d0 : W.cell? ⟨h2 + 1, 0, none⟩ = some v := hl.cell 0
        have tuW : Turns [] W (W.alloc (.cells #[.int .i64 (m : Int)] 3)) := (Turns.refl [] _).alloc _
        have hiW := SI.tasks (Mv.of_turns tuW (by simp) (fun x hx => by cases hx)) hi
        have frW := ((sm_ok P hG).okw _ _ _ hi).fr (sm_ok P hG) tuW
        have cW := (tuW.cell (p := ⟨h2 + 1, 0, none⟩) hl.lt (by simp)).trans d0
        have fW : (W.alloc (.cells #[.int .i64 (m : Int)] 3)).frozen? ⟨h2 + 1, 0, none⟩ = false := (hl.turn tuW (by simp)).frozen 0
        have lt2 := hl.lt
        have n2 := own_ne ho hl (by decide)
        have hbase : P.B ≤ W.heap.size := ((sm_ok P hG).okw _ _ _ hi).base
        have F : ∀ g cap w9, w9.ownsRow P.B 3 1 (.slice (some ⟨g, 0, none⟩) ((s.hs 0).length + 1) cap) ((s.hs 0).length + 1) (intVs (s.hs 0) ++ [.int .i64 (m : Int)]) → (W.alloc (.cells #[.int .i64 (m : Int)] 3)).grownBy w9 v.ownBlock → (v.ownBlock = some g ∨ g = W.heap.size + 1) → FillA P h2 k (m + 1) W4 (w9.setCell ⟨h2 + 1, 0, none⟩ (.slice (some ⟨g, 0, none⟩) ((s.hs 0).length + 1) cap)) := by
          intro g cap w9 q1 q2 q3
          have hc1 : (W.alloc (.cells #[.int .i64 (m : Int)] 3)).cell? ⟨P.wb 0, 0, none⟩ = some v := by rw [h1w]; exact cW
          obtain ⟨a1, a2⟩ := hiW.app_h hG 0 hj0 hc1 q1 q2 q3 (by simp) ⟨by omega, by rw [HGP.out.2.2.1]; omega⟩ (by omega)
          rw [h1w] at a1 a2
          refine ⟨⟨_, a1, ?_, e2, e3, e4⟩, hbx.mv (frW.trans a2).mv, (hfr.trans frW).trans a2, by omega⟩
          show updF s.hs 0 (s.hs 0 ++ [(m : Int)]) 0 = _
          rw [updF_same, e1, upto_succ]
        have hN := Lib.hid (And.intro e1 (And.intro e2 (And.intro e3 (And.intro e4 hlen))))
        have hnl : (s.hs 0).length < 1000 := by omega
        clear e1 e2 e3 e4 hlen hi hiW frW tuW hfr hbx h1w
        obtain ⟨i0, hi0, hz0, hz1, hz2⟩ := info_parts int_info8
        generalize (s.hs 0).length = ln at *
        go_wp2_with (first | (at_builtin; refine wpList_append_lies _ rfl (.tmp 46) (.tmp 48) 31 rfl P.B 3 i0 _ 1 8 Try.underlying31 hi0 hz0 hz1 hz2 rfl (by omega) v ln (intVs (s.hs 0)) rfl (ho.alloc _) ⟨W.heap.size, 0, none⟩ 1 1 [.int .i64 (m : Int)] rfl rfl (World.news_of_block (cs := #[.int .i64 (m : Int)]) (t := 3) (fr := (0, 0)) (heap_alloc_new W _)) (by simp [Value.oneCell']) (by omega) (by simp only [maxLen]; omega) (by omega) (by simp; omega) (W.heap.size + 1) (by simp) ?_; intro gg cap w9 hown1 hgrow hat hlt; have p2 : w9.cell? ⟨h2 + 1, 0, none⟩ = some v := (hgrow.cell_far ⟨h2 + 1, 0, none⟩ (by simp; omega) n2).trans cW; have pf : w9.frozen? ⟨h2 + 1, 0, none⟩ = false := (hgrow.frozen_far ⟨h2 + 1, 0, none⟩ (by simp; omega) n2).trans fW) | fail)
        go_roundw
        case rel => exact ⟨m + 1, by go_num, F _ _ _ hown1 hgrow hat⟩
        case measure => simp [intOf]; omega
      · obtain ⟨⟨s, hi, e1, e2, e3, e4⟩, hbx, hfr, hle⟩ := hF
        obtain rfl : m = k := by omega
        have hN := HGP.out
        have hM := sm_ok P hG
        have hj0 : 0 < P.nw := by omega
        have okw := hM.okw _ _ _ hi
        have hbase : P.B ≤ W.heap.size := okw.base
        obtain ⟨v, hl, ho⟩ := hi.wk 0 hj0
        have h1w : P.wb 0 = h2 + 1 := hN.2.2.2.2.2.1
        rw [h1w] at hl
        have hlen : (s.hs 0).length = m := by rw [e1, upto_length]
        have tuW : Turns [] W (W.alloc (.cells #[] 3)) := (Turns.refl [] _).alloc _
        have d0 : (W.alloc (.cells #[] 3)).cell? ⟨h2 + 1, 0, none⟩ = some v := (tuW.cell (p := ⟨h2 + 1, 0, none⟩) hl.lt (by simp)).trans (hl.cell 0)
        have hints : Ints (s.hs 0) := fun x hx => by
          have := hi.hb 0 hj0 x hx
          have h9 := hG.few
          exact WalkArith.wf_i64 (by omega)
        have F : ∀ v' w', IRow w' W.heap.size v' (s.hs 0) → Turns [] W w' → Al w1 P h2 w1.heap.size m 0 (.slice none 0 0) v' w' := fun v' w' q1 q2 => by
          have hbW : Below w1.heap.size w1 W := b4.trans ((SI.below hG (by assumption : SI P 360 _ W4) (fun b hb => .inl hb) hfr).mono (by omega))
          have b0 : Below W.heap.size W w' := q2.below (by simp) (Nat.le_refl _)
          refine ⟨⟨s, [], hi.turns q2 (by simp), by rw [e2, e1]; exact one_start m, e3, MRow.nil _, LRow.new hG hi q1 b0 (by omega)⟩, hbx.mv (okw.mv hM q2), hbW.trans (b0.mono hbW.size), by omega⟩
        clear e1 e2 e3 e4 hi hN okw hl h1w tuW hfr hbx hle hbase
        go_upto_region 16 with (first | (at_builtin; refine wpList_copy rfl (.tmp 53) (.tmp 57) rfl rfl v rfl ho hints (by omega) ?_; intro v' w' q1 q2) | fail)
        have hA := F _ _ q1 q2
        clear F q1 q2 d0 ho hints hlen
        have hbw : Below w.heap.size w w1 := b1
        go_loopw [10, 11, 13, 14, 15, 16, 17, 61] (fun mv hv _ _ _ _ _ i W => ∃ t : Nat, i = .int .i64 (t : Int) ∧ t ≤ n ∧ Al w1 P h2 w1.heap.size m t mv hv W) (fun _ _ _ _ _ _ _ i _ => n - (intOf i).toNat)
        case atStart => exact ⟨0, rfl, Nat.zero_le _, hA⟩
        case round =>
          clear hA
          obtain ⟨t, rfl, htn, hA⟩ := hrel
          generalize wr = W at *
          generalize u10 = mv at *
          generalize u11 = hv at *
          by_cases ht : t < n
          · have hN := HGP.out
            have hM := sm_ok P hG
            have hj0 : 0 < P.nw := by omega
            obtain ⟨s, ts, hi, hone, hwr, hmr, hlr⟩ := hA.si
            have okw := hM.okw _ _ _ hi
            have hbe := hA.be
            have hBW : w1.heap.size ≤ W.heap.size := hbe.size
            have h1w : P.wb 0 = h2 + 1 := hN.2.2.2.2.2.1
            have hbr := hrow.keep (hbw.trans (hbe.mono hbw.size))
            obtain ⟨a, rfl, _, hcells⟩ := hbr.at_ (by omega)
            have hcell := hcells t (by omega)
            clear hcells
            obtain ⟨pop, hpop⟩ : ∃ pop, bs.getD t false = pop := ⟨_, rfl⟩
            rw [hpop] at hcell
            obtain ⟨v, hl, ho⟩ := hi.wk 0 hj0
            rw [h1w] at hl
            have q3 : W.cell? ⟨h2 + 1, 3, none⟩ = some (.bool (s.ba 0)) := hl.cell 3
            have f3 : W.frozen? ⟨h2 + 1, 3, none⟩ = false := hl.frozen 3
            have m1 := hi.mark hG 0 hj0 3 (.inr (.inl rfl)) true
            have n1 := hi.mark_fr hG 0 hj0 3 (.inr (.inl rfl)) true
            rw [h1w] at m1 n1
            have hone1 : One m (s.mark 0 3 true).l ((s.mark 0 3 true).hs 0) ts := hone
            have hwr1 : (s.mark 0 3 true).wr 0 = false := hwr
            have hlr1 : LRow P w1.heap.size hv ((s.mark 0 3 true).hs 0) (W.setCell ⟨h2 + 1, 3, none⟩ (.bool true)) := hlr.fr n1
            have hmr1 := hmr.fr n1
            have box1 := hA.box.mv n1.mv
            have hbe1 := hbe.trans ((hi.below hG (fun b hb => .inl hb) n1).mono (by omega))
            have htl := hA.le
            clear hi hone hwr hlr hmr okw hl ho hbr hpop hA
            go_upto_region 19 with (fail)
            clear q3 f3 hcell
            generalize W.setCell ⟨h2 + 1, 3, none⟩ (.bool true) = W1 at *
            generalize s.mark 0 3 true = s1 at *
            clear n1 hbe hBW
            have hBW : w1.heap.size ≤ W1.heap.size := hbe1.size
            -- the code
            obtain ⟨W2, hW2⟩ : ∃ W2, W1.alloc (.cells #[.bool pop] 4) = W2 := ⟨_, rfl⟩
            have k2 : Turns [] W1 W2 := by rw [← hW2]; exact (Turns.refl _ _).alloc _
            have l2 : Lies W2 W1.heap.size 4 #[.bool pop] := by rw [← hW2]; exact Lies.new _ _ _
            have okw1 := hM.okw _ _ _ m1
            have f2 := okw1.fr hM k2
            have hi2 := m1.turns k2 (by simp)
            obtain ⟨ex, hex⟩ : ∃ ex, hv.ownBlock.toList = ex := ⟨_, rfl⟩
            have hexl : ∀ b, b ∈ ex → b < W1.heap.size := fun b hb => by
              rw [← hex] at hb
              exact hlr1.lt b (by simpa using hb)
            have hi2x := hi2.with (ex := ex) (fun b hb => Nat.lt_of_lt_of_le (hexl b hb) k2.size)
            have hGx := hG.with ex
            have hMx := sm_ok (P.with ex) hGx
            have hBL : BL (P.with ex) W2 (some ⟨W1.heap.size, 0, none⟩) [pop] := BL.new l2 (n := 1) rfl (fun i hi => by
              obtain rfl : i = 0 := by omega
              rfl) (by omega) (fun hm => by
                rcases List.mem_append.1 hm with h8 | h8
                · exact (hi2.bools l2).1 h8
                · have := hexl _ h8; omega) (hi2.bools l2).2
            have hcode := code_g hGx (6 * (60 - t)) [pop] 0 (some ⟨W1.heap.size, 0, none⟩) 1 W2 (6 * (60 - t)) s1 hj0 hBL (Nat.le_refl _) hi2x
            unfold Gm.Then at hcode
            have hAr : #[stV (P.with ex), Value.slice (some ⟨W1.heap.size, 0, none⟩) [pop].length 1, ptr ((P.with ex).wb 0)] = #[chV P.p 0 38 #[], Value.slice (some ⟨W1.heap.size, 0, none⟩) 1 1, ptr (h2 + 1)] := by
              show #[chV P.p 0 38 #[], Value.slice (some ⟨W1.heap.size, 0, none⟩) 1 1, ptr (P.wb 0)] = _
              rw [h1w]
            rw [hAr] at hcode
            obtain ⟨R, hR⟩ : ∃ R, startS 0 [pop] s1 = R := ⟨_, rfl⟩
            rw [hR] at hcode
            have hWR : (SM (P.with ex)).W R.1 R.2 := by rw [← hR]; exact W_start _ _ _
            obtain ⟨c0, c1', c2'⟩ : W1.cell? ⟨h2, 0, none⟩ = some (ptr P.p) ∧ W1.cell? ⟨h2, 1, none⟩ = some (.int .i64 0) ∧ W1.cell? ⟨h2, 2, none⟩ = some (.func (.func 38) #[] #[]) := ⟨box1.l.cell 0, box1.l.cell 1, box1.l.cell 2⟩
            have HN := Lib.hid hN
            clear hN hAr hBL hi2x l2 hi2
            go_wp2_with fail
            clear hW2
            refine hcode.mono ?_
            rintro e w7 ⟨v7, rfl, ⟨hi7, hc7⟩, f7⟩
            have hn := newtask_any v7 hc7.is w7
            go_wp2_with fail
            refine hn.mono ?_
            rintro e w8 ⟨rfl, hw8⟩
            have tk := Gm.Task.made hMx (hMx.okw _ _ _ hi7) hc7
            have k8 : Turns [] w7 (w7.alloc (.cells #[v7, .int .i64 0] 89)) := (Turns.refl _ _).alloc _
            have hi8 := hMx.made k8 hi7
            have f8 := (hMx.okw _ _ _ hi7).fr hMx k8
            rw [hw8] at tk hi8 f8
            have f18 : Fr P.L P.ws W1 w8 := f2.trans (Fr.trans (show Fr P.L P.ws W2 w7 from f7) f8)
            have hmr8 := hmr1.fr f18
            have hlr8 := hlr1.fr f18
            have box8 := box1.mv f18.mv
            have hbe8 := hbe1.trans ((m1.below hG (fun b hb => .inl hb) f18).mono (by have := HN.out; omega))
            have hz7 : W1.heap.size ≤ w7.heap.size := Nat.le_trans k2.size f7.size
            have hlt8 := hlr1.lt
            have hmlt : ∀ A n c a, mv = .slice A n c → A = some a → 0 < n → a.block ≠ w7.heap.size := fun A n c a e1 e2 hn => by
              obtain ⟨A', c', e3, _, h4, _⟩ := hmr1.at_
              rw [e1] at e3
              injection e3 with e3 e5 _
              obtain ⟨a', e4, hb, _⟩ := h4.at_ (by omega)
              rw [← e3, e2] at e4
              injection e4 with e4
              subst e4
              omega
            have hhlt : hv.ownBlock ≠ some w7.heap.size := fun e => by have := hlt8 _ e; omega
            clear hw8 hi7 hc7 hn hcode k8 f8 f7 hmr1 hlr1 box1 hbe1 f2 k2 okw1 m1 f18 hlt8
            obtain ⟨vw, hlw, how⟩ := hi8.wk 0 hj0
            have hlw : Lies w8 (h2 + 1) _ _ := h1w ▸ hlw
            have q3 : w8.cell? ⟨h2 + 1, 3, none⟩ = some (.bool (R.2.ba 0)) := hlw.cell 3
            have f3 : w8.frozen? ⟨h2 + 1, 3, none⟩ = false := hlw.frozen 3
            have ntk : w7.heap.size ≠ h2 + 1 := fun e => by
              obtain ⟨_, _, h⟩ := tk.at_
              obtain ⟨vt, ht1, _⟩ := tk.at_
              exact (ht1.unlike hlw (by decide)) e
            obtain ⟨Am0, cm0, hmv, _⟩ := hmr8.row
            have hmvk := Lib.hid hmv
            subst hmv
            obtain ⟨bb, hbb⟩ : ∃ bb, ((ts.length : Int) == 0) = bb := ⟨_, rfl⟩
            have hts : ts = [] → bb = true := fun e => by rw [← hbb, e]; rfl
            go_upto_region 23 with (fail)
            have m5 := hi8.mark hGx 0 hj0 3 (.inr (.inl rfl)) bb
            have n5 := hi8.mark_fr hGx 0 hj0 3 (.inr (.inl rfl)) bb
            have h1x : (P.with ex).wb 0 = h2 + 1 := h1w
            rw [h1x] at m5 n5
            have n5 : Fr P.L P.ws w8 (w8.setCell ⟨h2 + 1, 3, none⟩ (.bool bb)) := n5
            have tk5 : (SM (P.with ex)).Task (6 * (60 - t)) R.1 0 w7.heap.size (w8.setCell ⟨h2 + 1, 3, none⟩ (.bool bb)) := tk.keep (Below.heap_setCell w8 ⟨h2 + 1, 3, none⟩ _ _ ntk) (Fr.mv (show Fr (P.with ex).L (P.with ex).ws _ _ from n5))
            have mr5 := hmr8.fr n5
            have lr5 := hlr8.fr n5
            have hact := act_one (P := P.with ex) (j := 0) (n := m) (by omega) pop bb s1 ts hone1 hts 0 6 (by omega)
            rw [hR, hwr1] at hact
            have ax5 : Ax w1 P h2 w1.heap.size (6 * (60 - t)) w7.heap.size ex R.1 (R.2.mark 0 3 bb) (w8.setCell ⟨h2 + 1, 3, none⟩ (.bool bb)) := ⟨m5, tk5, W_mark hWR, box8.mv n5.mv, hbe8.trans (((hi8.bare HEX.out).below hG (fun b hb => .inl hb) n5).mono (by have := HN.out; omega)), by omega⟩
            have hBW5 : w1.heap.size ≤ (w8.setCell ⟨h2 + 1, 3, none⟩ (.bool bb)).heap.size := Nat.le_trans (show w1.heap.size ≤ w8.heap.size by have := tk.lt; omega) n5.size
            generalize w8.setCell ⟨h2 + 1, 3, none⟩ (.bool bb) = W5 at *
            generalize R.2.mark 0 3 bb = s5 at *
            have hmem : ∀ y : Int, y ∈ ts ∨ y ∈ s1.hs 0 → 0 ≤ y ∧ y < m := fun y hy => hone1.mem hy
            have hlens := hone1.len
            have HACT := Lib.hid hact
            have HAX := Lib.hid ax5
            have hexb : ∀ b, b ∈ ex → b ∉ P.L ∧ ¬ Rw P.ws W5 b ∧ b ≠ w7.heap.size ∧ b ≠ h2 ∧ w1.heap.size ≤ b := fun b hb => by
              rw [← hex] at hb
              have hb : hv.ownBlock = some b := by simpa using hb
              refine ⟨(lr5.out b hb).1, (lr5.out b hb).2, fun e => hhlt (by rw [hb, e]), fun e => ?_, (lr5.row.lt b hb).1⟩
              rcases lr5.row.own.2 with ⟨h0, _⟩ | ⟨g, cap, cur, h0, _, hg, _⟩
              · rw [h0] at hb; cases hb
              · rw [h0] at hb
                simp [Value.ownBlock] at hb
                subst hb
                exact (Lies.unlike (t := 3) hg ax5.box.l (by decide)) e
            have HXB := Lib.hid hexb
            clear n5 m5 tk5 hact q3 f3 hlw how hi8 tk hmr8 hlr8 box8 hbe8 hone1 hwr1 hWR hts hbb hmvk h1x ax5 hexb hR
            go_upto_if 82 with (fail)
            go_cut [10, 11, 15, 16, 17] (fun mv' hv' _ _ _ wc => Am w1 P h2 w1.heap.size m (6 * (60 - t)) w7.heap.size mv' hv' wc)
            case first =>
              cases pop with
              | true =>
                cases ts with
                | nil =>
                  have F := Lib.hid (fun W' (tu : Turns [] W5 W') => Am.same (k := m) hG HEX.out HAX.out HXB.out hBW5 HACT.out mr5 lr5 hmlt hhlt tu)
                  clear lr5 mr5 hmlt
                  simp only [List.length_nil] at F ⊢
                  have hp0 := fun W => refpop_none Am0 cm0 W
                  go_wp2_with fail
                  refine (hp0 _).mono ?_
                  rintro e w9 ⟨rfl, rfl⟩
                  go_wp2_with fail
                  go_meet
                  case rel => exact F.out _ (Turns.refl _ _)
                | cons i ts' =>
                  have hib := hmem i (.inl (by simp))
                  have hiw : (Lit.int .i64 i).wf = true := WalkArith.wf_i64 (by omega)
                  obtain ⟨A', c', e', hrw⟩ := mr5.row
                  injection e' with e1 _ e3
                  subst e1
                  subst e3
                  have F := Lib.hid (fun g cap w9 ho hg hat => Am.pop (k := m) (hs := s1.hs 0) (ts := ts') (i := i) (A := Am0) (cp := cm0) (g := g) (cap := cap) (w9 := w9) hG HEX.out HAX.out hex HXB.out hBW5 HACT.out mr5 lr5 hmlt hhlt hiw ho hg hat)
                  have hp0 := refpop_some Am0 ts'.length cm0 i ts' W5 hrw (by simp at hlens; omega)
                  have hown := (lr5.row.own.drew).alloc (.cells #[.int .i64 i] 3)
                  have hln : (s1.hs 0).length ≤ 100 := by omega
                  have hbase : w1.heap.size ≤ W5.drew.heap.size + 1 := by have : W5.drew.heap.size = W5.heap.size := rfl; omega
                  simp only [List.length_cons] at F ⊢
                  clear mr5 lr5 hmlt hrw hhlt hlens hmem
                  obtain ⟨i0, hi0, hz0, hz1, hz2⟩ := info_parts int_info8
                  go_wp2_with fail
                  refine hp0.mono ?_
                  rintro e w9 ⟨rfl, rfl⟩
                  go_wp2_with (first | (at_builtin; refine wpList_append_lies _ rfl (.tmp 91) (.tmp 93) 31 rfl w1.heap.size 3 i0 _ 1 8 Try.underlying31 hi0 hz0 hz1 hz2 rfl (by omega) hv (s1.hs 0).length ((s1.hs 0).map (Value.int .i64)) rfl hown ⟨W5.drew.heap.size, 0, none⟩ 1 1 [.int .i64 i] rfl rfl (World.news_of_block (cs := #[.int .i64 i]) (t := 3) (fr := (0, 0)) (heap_alloc_new W5.drew _)) (by simp [Value.oneCell']) (by omega) (by simp only [maxLen]; omega) (by omega) (by simp; omega) (W5.drew.heap.size + 1) (by simp) ?_; intro gg cap w10 hown1 hgrow hat hlt) | fail)
                  go_meet
                  case rel => exact F.out _ _ _ hown1 hgrow hat
              | false =>
                by_cases hne : s1.hs 0 = []
                · have hst : simA [false] (s1.hs 0) ts = (s1.hs 0, ts) := by
                    show (match (s1.hs 0).getLast? with | none => simA [] (s1.hs 0) ts | some i => simA [] (s1.hs 0).dropLast (i :: ts)) = _
                    rw [hne]
                    rfl
                  have hact : Acts8 P ex m R.1 s5 (s1.hs 0) ts := by
                    have := HACT.out
                    rw [hst] at this
                    exact this
                  have F := Lib.hid (fun W' (tu : Turns [] W5 W') => Am.same (k := m) hG HEX.out HAX.out HXB.out hBW5 hact mr5 lr5 hmlt hhlt tu)
                  obtain ⟨Ah, ch, rfl, _⟩ := lr5.row.row
                  have hl0 : (s1.hs 0).length = 0 := by rw [hne]; rfl
                  rw [hl0] at F ⊢
                  clear lr5 mr5 hmlt hst hact hne hhlt hex
                  go_wp2_with fail
                  go_meet
                  case rel => exact F.out _ (Turns.refl _ _)
                · obtain ⟨ys, x, hys⟩ : ∃ ys x, s1.hs 0 = ys ++ [x] := ⟨_, _, (List.dropLast_concat_getLast hne).symm⟩
                  have hst : simA [false] (s1.hs 0) ts = (ys, x :: ts) := by
                    rw [hys, simA_false]
                    rfl
                  have hact : Acts8 P ex m R.1 s5 ys (x :: ts) := by
                    have := HACT.out
                    rw [hst] at this
                    exact this
                  have hxm := hmem x (.inr (by rw [hys]; simp))
                  have hxw : (Lit.int .i64 x).wf = true := WalkArith.wf_i64 (by omega)
                  rw [hys] at lr5 hlens
                  obtain ⟨g, ch, hv0, _, hglt⟩ := lr5.row.own.form (by simp)
                  obtain ⟨q, hq⟩ : ∃ q, ys.length = q := ⟨_, rfl⟩
                  have hv' : hv = .slice (some ⟨g, 0, none⟩) (q + 1) ch := by rw [hv0]; simp [hq]
                  clear hv0
                  have hqc : q + 1 ≤ ch := by
                    obtain ⟨A', c', e', hle⟩ := own_slice lr5.row.own
                    rw [hv'] at e'
                    injection e' with _ e2 e3
                    omega
                  have q1 : W5.cell? ⟨g, q, none⟩ = some (.int .i64 x) := by
                    have := lr5.row.own.cells (g := g) (by rw [hv']; rfl) q (.int .i64 x) (by rw [List.getElem?_map, List.getElem?_append_right (by omega), hq, Nat.sub_self]; rfl)
                    rwa [add_head4] at this
                  subst hv'
                  have F := Lib.hid (fun v W0 W' (t0 : Turns [] W5 W0) h b => Am.push (k := m) (hs := ys) (i := x) (n := q) (v := v) (W' := W') hG HEX.out HAX.out HXB.out hBW5 hact lr5 hq hhlt t0 h b)
                  obtain ⟨A', c', e', hrw⟩ := mr5.row
                  injection e' with e1 _ e3
                  subst e1
                  subst e3
                  have hwq1 : IntKind.i64.wrap ((q : Int) + 1 - 1) = q := by rw [IntKind.wrap_i64]; simp at hlens; omega
                  have hwq : IntKind.i64.wrap (q : Int) = q := by rw [IntKind.wrap_i64]; simp at hlens; omega
                  have hq100 : q < 100 := by simp at hlens; omega
                  have htl100 : ts.length < 100 := by simp at hlens; omega
                  have hsl := slice_head1 (t := 31) (e := 3) Try.underlying31 (by kernel_rfl) (some ⟨g, 0, none⟩) (q + 1) ch q (by omega)
                  rw [headO_some] at hsl
                  have hpu := fun W (hr : Row W .i64 Am0 ts.length ts) => refpush_any Am0 ts.length cm0 x ts W hr hxw (by omega)
                  clear lr5 mr5 hmlt hst hact hne hhlt hex hys hlens hmem hxm hq
                  go_wp2_with fail
                  refine (hpu _ hrw).mono ?_
                  rintro e w9 ⟨v9, rfl, hr9, b9⟩
                  go_wp2_with fail
                  go_meet
                  case rel => exact F.out _ _ _ (Turns.refl _ _) hr9 b9
            case rest =>
              clear HACT HAX HXB hmlt hhlt hex hmem hlens c0 c1' c2' hexl hGx hMx hBW5 mr5 lr5 hBW
              generalize u10 = mv at *
              generalize u11 = hv at *
              generalize wc = Y at *
              obtain ⟨⟨ex, q, s, hs, ts, ax, act, mr, lr⟩, o1, o2⟩ := hcut
              have hGx := hG.with ex
              have hMx := sm_ok (P.with ex) hGx
              have hm6 : 6 * (60 - t) = 6 * (60 - (t + 1)) + 6 := by omega
              have ax1 := ax.si
              have ax2 := ax.task
              have hfin := finish_g hMx 6 (show 6 ≤ 6 * (60 - t) by omega) ax2 ax1 (fun i _ _ => W_run ax.w i) (by omega)
              unfold Acts8 at act
              obtain ⟨a1, a2, a3, a4⟩ := act
              rw [a1] at hfin
              generalize ((SM (P.with ex)).runN q s 0 6).2.1 = s9 at *
              have hN2 := HN.out
              have htkl := ax2.lt
              have hbxt : h2 ≠ w7.heap.size := fun e => by
                obtain ⟨vt, ht1, _⟩ := ax2.at_
                exact (ax.box.l.unlike ht1 (by decide)) e
              have be0 := ax.be
              have box0 := ax.box
              have low0 := ax.low
              have hi0 := ax1.bare HEX.out
              have hBY : w1.heap.size ≤ Y.heap.size := be0.size
              clear a1 ax ax1 ax2
              go_wp2_with fail
              refine (show Calls Try.prog 18 #[ptr w7.heap.size, .int .i64 6] _ _ from hfin).mono ?_
              rintro e Y9 ⟨rfl, _, hi9, f9, _⟩
              have f9 : Fr (w7.heap.size :: P.L) P.ws Y Y9 := f9
              have hi9 := SI.down hG (hi9.bare HEX.out) (show 6 * (60 - (t + 1)) ≤ 6 * (60 - t) - 6 by omega)
              have lr9 := lr.past f9 o2
              have mr9 := mr.past f9 o1
              have box9 := box0.past f9 hbxt
              have be9 := be0.trans ((SI.below hG hi0 (L := w7.heap.size :: P.L) (fun b hb => by
                rcases List.mem_cons.1 hb with h8 | h8
                · right; omega
                · exact .inl h8) f9).mono (by omega))
              have hB9 : w1.heap.size ≤ Y9.heap.size := be9.size
              obtain ⟨v9, hl9, ho9⟩ := hi9.wk 0 hj0
              have hl9 : Lies Y9 (h2 + 1) _ _ := h1w ▸ hl9
              rw [a3] at ho9
              rw [a4] at hl9
              have q4 : Y9.cell? ⟨h2 + 1, 4, none⟩ = some (.bool false) := hl9.cell 4
              have q0 : Y9.cell? ⟨h2 + 1, 0, none⟩ = some v9 := hl9.cell 0
              obtain ⟨Ah, ch, hhv, hrh⟩ := lr9.row.row
              obtain ⟨A9, c9, hv9, hr9⟩ := (show IRow Y9 P.B v9 hs from ⟨ho9, lr9.row.ints⟩).row
              obtain ⟨Ar, cr, hmv, hrm⟩ := mr9.row
              have F := Lib.hid (fun Y12 (tu : Turns [] Y9 Y12) => (show Al w1 P h2 w1.heap.size m (t + 1) mv hv Y12 from by
                have okw9 := hM.okw _ _ _ hi9
                have fr := okw9.fr hM tu
                exact ⟨⟨s9, ts, hi9.turns tu (by simp), a2, a4, mr9.fr fr, by rw [a3]; exact lr9.fr fr⟩, box9.mv fr.mv, be9.trans (tu.below (by simp) hB9), by omega⟩))
              have hsm1 := rsame_any A9 Ah hs.length c9 ch hs Y9 hr9 hrh
              have hlst := fun Y10 (b : Below Y9.heap.size Y9 Y10) => stlist_any P.p P.c 0 38 #[] (fun i => i + 1) s9.l s9.k Y10 (hi9.turns (Turns.of_below (L := []) b (Nat.le_refl _)) (by simp)).ar ent_link (by have := a2.ok.len; omega) (fun i => 0 ≤ i ∧ i < m) (fun i hi => by omega) (One.dom a2.ok (fun i => hi9.ar.fitA i) (by omega)).1 (One.dom a2.ok (fun i => hi9.ar.fitA i) (by omega)).2 (fun W i hi => (link_any i (by unfold Ix; omega) W).mono fun e w2 h => ⟨h.1, by rw [h.2]; exact Turns.refl _ _⟩)
              rw [a2.told (by omega)] at hlst
              have hc9 := fun Y10 (b : Below Y9.heap.size Y9 Y10) => (show Y10.cell? ⟨h2, 0, none⟩ = some (ptr P.p) ∧ Y10.cell? ⟨h2, 1, none⟩ = some (.int .i64 0) ∧ Y10.cell? ⟨h2, 2, none⟩ = some (.func (.func 38) #[] #[]) from by
                have l := box9.l.below b box9.l.lt
                exact ⟨l.cell 0, l.cell 1, l.cell 2⟩)
              subst hhv
              subst hmv
              have hq0 : Y9.cell? ⟨h2 + 1, 0, none⟩ = some (.slice A9 hs.length c9) := by rw [q0, hv9]
              clear q0 hv9 ho9 hl9 hi9 hi0 hfin f9 lr9 mr9 box9 box0 be0 be9 lr mr o1 o2 a2 a3 a4 hbxt htkl hN2 hB9 hBY low0 hr9 hrh
              generalize hs.length = L9 at *
              go_wp2_with fail
              refine hsm1.mono ?_
              rintro e Y10 ⟨rfl, b10⟩
              obtain ⟨c0, c1', c2'⟩ := hc9 _ b10
              have hlst := hlst _ b10
              clear hsm1 hc9 hq0 q4
              go_wp2_with fail
              refine hlst.mono ?_
              rintro e Y11 ⟨v11, rfl, hr11, b11⟩
              have b911 := b10.trans (b11.mono b10.size)
              obtain ⟨A11, c11, rfl, hrow11⟩ := hr11.row
              have hsm2 := rsame_any A11 Ar ts.length c11 cr ts Y11 hrow11 (hrm.keep (Nat.le_refl _) b911)
              clear hlst hr11 hrow11 hrm c0 c1' c2'
              generalize ts.length = L11 at *
              go_wp2_with fail
              refine hsm2.mono ?_
              rintro e Y12 ⟨rfl, b12⟩
              have F := F.out Y12 (Turns.of_below (L := []) (b911.trans (b12.mono b911.size)) (Nat.le_refl _))
              clear hsm2
              go_wp2
              go_roundw
              case rel => exact ⟨t + 1, by go_num, by omega, F⟩
              case measure => simp [intOf]; omega
          · obtain rfl : t = n := by omega
            have hbe := hbw.trans (hA.be.mono hbw.size)
            clear hA
            go_wp2_with fail
            go_ret
            exact ⟨rfl, hbe⟩

theorem alone8_nat (a : Int) (A : Option Addr) (n cp : Nat) (bs : List Bool) (w : World) (ha : 0 ≤ a ∧ a < 256) (hbs : bs.length = n) (hrow : BRow w A bs) :
    Calls Try.prog 3 #[.int .u8 a, .slice A n cp] w fun e w' => e = .returned (.bool true) ∧ Below w.heap.size w w' := by
  obtain ⟨m, rfl⟩ := Int.eq_ofNat_of_zero_le ha.1
  exact alone8 m (by omega) A n cp bs hbs w hrow

end Go.Proofs.Ythjbmaeoogophaa
