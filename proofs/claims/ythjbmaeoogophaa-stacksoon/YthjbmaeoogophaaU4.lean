/- Layer 8: the document's example. -/
import Derived.Test.YthjbmaeoogophaaU3
import Derived.ProofKit
import Derived.WalkKit
import Derived.Laws.MakeOwn
import Derived.Deep.Grids
namespace Go.Proofs.Ythjbmaeoogophaa
open Go.RowKit
set_option maxRecDepth 100000

section
variable {P : SP} {r : Nat} {s : SSt} {W W' : World}
theorem SI.below (hG : P.Good) (h : SI P r s W) {L : List Nat} (hL : ∀ b, b ∈ L → b ∈ P.L ∨ P.B ≤ b) (f : Fr L P.ws W W') : Below P.B W W' :=
  f.below (fun b hb => by
    rcases hL b hb with h1 | h1
    · exact (sm_ok P hG).low b h1
    · exact h1) (fun b hb => (h.rw hb).1) ((sm_ok P hG).okw _ _ _ h).base
theorem getA_zero (m : Nat) (i : Int) : getA (List.replicate m 0) i = 0 := by
  rcases hasA_cases (List.replicate m 0) i with h | ⟨k, rfl, h⟩
  · exact getA_out h
  · rw [getA_nat h]
    exact List.getElem_replicate _
theorem sok_zero (n : Nat) : SOk n (List.replicate (n + 1) 0) :=
  ⟨by simp, by rw [getA_zero]; exact ⟨by unfold N64; omega, by unfold hIx; omega⟩, fun i _ => by rw [getA_zero]; omega⟩
/-- bools that were just laid. -/
theorem BL.new {W : World} {g n : Nat} {bs : List Bool} {cs : Array Value} (h : Lies W g 4 cs) (hn : bs.length = n) (hc : ∀ i, i < n → cs[i]? = some (.bool (bs.getD i false))) (hm : n ≤ 100000) (h1 : g ∉ P.L ++ P.ex) (h2 : ¬ Rw P.ws W g) : BL P W (some ⟨g, 0, none⟩) bs := by
  subst hn
  refine ⟨hm, fun _ => ⟨_, rfl, h.lt, h1, h2, fun q => q.ne h (by decide), fun i hi => ?_⟩⟩
  rw [Addr.add_mid, Nat.zero_add, h.cell i]
  exact hc i hi
end

set_option maxHeartbeats 1000000 in
theorem speaks8_any (w : World) : Calls Try.prog 12 #[] w fun e w' => e = .returned (.bool true) ∧ Below w.heap.size w w' := by
  have hf := fresh8_any 3 (by omega) w
  have y2 := fun (a : Addr) (f : FuncId) (c : Array Value) (w : World) => run_store Try.prog w a (.func (.func f) #[] c) .plain rfl
  go_enter Try.func12, Try.ntmps12
  go_wp2_with fail
  refine (show Calls Try.prog 13 #[.int .i64 3] _ _ from hf).mono ?_
  rintro e w1 ⟨p, c, rfl, ha, hb, hc, hp⟩
  clear hf
  go_wp2_with fail
  have hz1 := ha.head.lt
  have hb1 := hb.size
  generalize hh : w1.heap.size = h1 at *
  obtain ⟨W6, hW6⟩ : ∃ W6, (((((w1.alloc (.cells #[.pointer (some ⟨p, 0, none⟩), .int .i64 0, .func (.func 38) #[] #[]] 27)).alloc (.cells #[.slice none 0 0] 31)).alloc (.cells #[.bool false, .bool false, .bool true, .bool true, .bool true] 4)).alloc (.cells #[.int .i64 2, .int .i64 1] 3)).alloc (.cells #[.slice (some ⟨h1 + 1 + 1 + 1, 0, none⟩) 2 2, .pointer (some ⟨h1 + 1, 0, none⟩), .bool false, .bool false, .bool false] 34)) = W6 := ⟨_, rfl⟩
  have k6 : Turns [] w1 W6 := by rw [← hW6]; exact (((((Turns.refl _ _).alloc _).alloc _).alloc _).alloc _).alloc _
  have l1 : Lies W6 (h1 + 1) 31 #[.slice none 0 0] := by rw [← hW6]; exact (((Lies.new_of _ _ (by simp [hh])).alloc _).alloc _).alloc _
  have l2 : Lies W6 (h1 + 1 + 1) 4 #[.bool false, .bool false, .bool true, .bool true, .bool true] := by rw [← hW6]; exact ((Lies.new_of _ _ (by simp [hh])).alloc _).alloc _
  have l3 : Lies W6 (h1 + 1 + 1 + 1) 3 #[.int .i64 2, .int .i64 1] := by rw [← hW6]; exact (Lies.new_of _ _ (by simp [hh])).alloc _
  have l4 : Lies W6 (h1 + 1 + 1 + 1 + 1) 34 #[.slice (some ⟨h1 + 1 + 1 + 1, 0, none⟩) 2 2, .pointer (some ⟨h1 + 1, 0, none⟩), .bool false, .bool false, .bool false] := by rw [← hW6]; exact Lies.new_of _ _ (by simp [hh])
  have ha6 := ha.turn k6 (by simp) (by simp)
  obtain ⟨P, hP⟩ : ∃ P, SP1 p c w.heap.size 3 (h1 + 1 + 1 + 1 + 1) (some (h1 + 1)) = P := ⟨_, rfl⟩
  have hG : P.Good := by
    rw [← hP]
    exact SP1.good (by omega) hc (by omega) (fun x hx => by injection hx with hx; subst hx; omega) (by omega) (by omega) (by omega)
  obtain ⟨s0, hs0⟩ : ∃ s0, SSt1 [0, 0, 0, 0] 0 [2, 1] [] false false false = s0 := ⟨_, rfl⟩
  have hI : SI P 60 s0 W6 := by
    rw [← hP, ← hs0]
    refine SI.one ha6 (by omega) (sok_zero 3) l4 ?_ (fun x hx => ?_) (by decide) (by simp)
    · exact ⟨rfl, .inr ⟨_, 2, _, rfl, by omega, l3, Nat.le_refl 2, by simp only [maxLen]; omega, rfl, rfl⟩⟩
    · injection hx with hx
      subst hx
      exact ⟨_, l1, World.ownsRow_nil _ _ _ _, fun b _ h => by cases h⟩
  have okw := (sm_ok P hG).okw _ _ _ hI
  have notin : ∀ x, x = h1 + 1 + 1 → x ∉ P.L ++ P.ex := fun x hx hm => by
    rw [← hP] at hm
    have hm := (List.mem_append.1 hm).resolve_right (by simp [SP1])
    rcases SP.L_mem.1 hm with h | h | ⟨j, _, h⟩ | ⟨j, _, h⟩
    · have h : x = p := h
      omega
    · have h : x = c := h
      omega
    · have h : h1 + 1 + 1 + 1 + 1 = x := h
      omega
    · injection h with h
      omega
  have hBL : BL P W6 (some ⟨h1 + 1 + 1, 0, none⟩) [false, false, true, true, true] := BL.new l2 (n := 5) rfl (fun i hi => by rcases (by omega : i = 0 ∨ i = 1 ∨ i = 2 ∨ i = 3 ∨ i = 4) with rfl | rfl | rfl | rfl | rfl <;> rfl) (by omega) (notin _ rfl) (fun h => by
    obtain ⟨_, cur, h2⟩ := hI.rw h
    exact h2.unlike l2 (by decide) rfl)
  have hcode := code_g hG 60 [false, false, true, true, true] 0 (some ⟨h1 + 1 + 1, 0, none⟩) 5 W6 60 s0 (by rw [← hP]; exact Nat.one_pos) hBL (by simp) hI
  have hA : #[stV P, Value.slice (some ⟨h1 + 1 + 1, 0, none⟩) [false, false, true, true, true].length 5, ptr (P.wb 0)] = #[chV p 0 38 #[], Value.slice (some ⟨h1 + 1 + 1, 0, none⟩) 5 5, ptr (h1 + 1 + 1 + 1 + 1)] := by rw [← hP]; rfl
  unfold Gm.Then at hcode
  rw [hA] at hcode
  obtain ⟨R, hR⟩ : ∃ R, startS 0 [false, false, true, true, true] s0 = R := ⟨_, rfl⟩
  rw [hR] at hcode
  have hg := go_speaks8 p c w.heap.size (h1 + 1 + 1 + 1 + 1) (h1 + 1)
  rw [hP, hs0, hR] at hg
  have hWR : (SM P).W R.1 R.2 := by rw [← hR]; exact W_start _ _ _
  have hend : (SM P).ended ((SM P).runN R.1 R.2 0 60).1 = true ∧ ((SM P).runN R.1 R.2 0 60).2.1.gt 0 = [2, 1, -1] := by
    obtain ⟨e1, e2⟩ := runN_go (M := SM P) 13 R.1 R.2 0
    have h13 : (SM P).ended ((SM P).runN R.1 R.2 0 13).1 = true := by
      rw [e1]
      show (match ((SM P).go 13 R).1.m with | .done => true | _ => false) = true
      rw [hg.1]
    have e := runN_end h13 47
    rw [show 13 + 47 = 60 by omega] at e
    rw [e, e2]
    exact ⟨e1 ▸ h13, hg.2⟩
  have gp : P.gp 0 = some (h1 + 1) ∧ P.nw = 1 ∧ P.B = w.heap.size := by rw [← hP]; exact ⟨rfl, rfl, rfl⟩
  have b6 : Below w.heap.size w W6 := hb.trans (k6.below (by simp) (by omega))
  have b7 := fun W' (f : Fr P.L P.ws W6 W') => hI.below hG (fun b hb => .inl hb) f
  rw [gp.2.2] at b7
  have HEND := Lib.hid hend
  have HGP := Lib.hid gp
  rw [hW6]
  clear hA hR hg hend gp hP hs0 hI hBL notin l1 l2 l3 l4 ha6 k6 hb ha okw hW6 hh hz1 hb1
  refine hcode.mono ?_
  rintro e w7 ⟨v, rfl, ⟨hi7, hc7⟩, f7⟩
  have hn := newtask_any v hc7.is w7
  go_wp2_with fail
  refine hn.mono ?_
  rintro e w8 ⟨rfl, hw8⟩
  have hM := sm_ok P hG
  have tk := Gm.Task.made hM (hM.okw _ _ _ hi7) hc7
  have k8 : Turns [] w7 (w7.alloc (.cells #[v, .int .i64 0] 89)) := (Turns.refl _ _).alloc _
  have hi8 := hM.made k8 hi7
  have b8 : Below w.heap.size w7 (w7.alloc (.cells #[v, .int .i64 0] 89)) := k8.below (by simp) (by have := (b7 _ f7).size; have := b6.size; omega)
  rw [hw8] at tk hi8 b8
  have hfin := finish_g hM 60 (Nat.le_refl _) tk hi8 (fun j _ _ => W_run hWR j) (by omega)
  rw [HEND.out.1] at hfin
  have b9 := fun W' (f : Fr (w7.heap.size :: P.L) P.ws w8 W') => SI.below hG hi8 (fun b hb => by
    rcases List.mem_cons.1 hb with h | h
    · right
      rw [HGP.out.2.2, h]
      have := (b7 _ f7).size
      have := b6.size
      omega
    · exact .inl h) f
  rw [HGP.out.2.2] at b9
  have b8 := (b6.trans (b7 _ f7)).trans b8
  clear hw8 tk hi8 hi7 hc7 hn hcode b6 b7 k8 f7
  go_wp2_with fail
  refine (show Calls Try.prog 18 #[ptr w7.heap.size, .int .i64 60] _ _ from hfin).mono ?_
  rintro e w9 ⟨rfl, _, hi9, f9, _⟩
  obtain ⟨x, hx, hox⟩ := SI.gt hi9 0 (h1 + 1) (by rw [HGP.out.2.1]; omega) HGP.out.1
  rw [HEND.out.2] at hox
  have b9 := b8.trans (b9 _ f9)
  have hrx : IRow w9 P.B x [2, 1, -1] := ⟨hox, by intro y hy; simp at hy; rcases hy with rfl | rfl | rfl <;> decide⟩
  obtain ⟨A, cx, rfl, hrw⟩ := hrx.row
  have c9 : w9.cell? ⟨h1 + 1, 0, none⟩ = some (.slice A 3 cx) := hx.cell 0
  have hlit := IRow.lit w9 (B := w.heap.size) [2, 1, -1] #[.int .i64 2, .int .i64 1, .int .i64 (-1)] rfl (by have := b9.size; omega) hrx.ints (by simp)
  obtain ⟨A', c', e', hrw'⟩ := hlit.row
  have bz : Below w9.heap.size w9 (w9.alloc (.cells #[.int .i64 2, .int .i64 1, .int .i64 (-1)] 3)) := (Below.refl _ _).alloc (Nat.le_refl _) _
  have hs := rsame_any A A' 3 cx c' [2, 1, -1] _ (hrw.keep (Nat.le_refl _) bz) hrw'
  injection e' with ea eb ec
  subst ea
  subst ec
  clear eb
  have b10 := b9.trans (bz.mono (by have := b9.size; omega))
  have hz := b10.size
  clear hfin hi9 f9 hx hox hrx hlit hrw hrw' HEND b8
  go_wp2_with fail
  refine hs.mono ?_
  rintro e w10 ⟨rfl, hz10⟩
  go_wp2
  go_ret
  exact ⟨rfl, b10.trans (hz10.mono hz)⟩

end Go.Proofs.Ythjbmaeoogophaa

/- Layer 8: what is put on, taken, and put back. -/
namespace Go.Proofs.Ythjbmaeoogophaa
open Go.RowKit

/-- the numbers from 0 to m - 1. -/
def upto (m : Nat) : List Int := (List.range m).map fun i : Nat => (i : Int)
theorem upto_succ (m : Nat) : upto (m + 1) = upto m ++ [(m : Int)] := by unfold upto; rw [List.range_succ, List.map_append]; rfl
theorem upto_length (m : Nat) : (upto m).length = m := by simp [upto]

section
variable {n : Nat}
theorem simA_false (l : List Bool) (hs ts : List Int) (i : Int) : simA (false :: l) (hs ++ [i]) ts = simA l hs (i :: ts) := by
  show (match (hs ++ [i]).getLast? with | none => simA l (hs ++ [i]) ts | some i' => simA l (hs ++ [i]).dropLast (i' :: ts)) = _
  rw [List.getLast?_concat, List.dropLast_concat]
theorem finds_false (l : List Bool) (hs ts : List Int) (i : Int) : finds (false :: l) (hs ++ [i]) ts = finds l hs (i :: ts) := by
  show (match (hs ++ [i]).getLast? with | none => finds l (hs ++ [i]) ts | some i' => finds l (hs ++ [i]).dropLast (i' :: ts)) = _
  rw [List.getLast?_concat, List.dropLast_concat]

/-- the last m things in hand are put on. -/
theorem put_on : ∀ (m : Nat) (hs xs ts : List Int), xs.length = m → simA (List.replicate m false) (hs ++ xs) ts = (hs, xs ++ ts) ∧ finds (List.replicate m false) (hs ++ xs) ts
  | 0, hs, xs, ts, h => by
    obtain rfl := List.length_eq_zero_iff.1 h
    rw [List.append_nil]
    exact ⟨rfl, trivial⟩
  | m + 1, hs, xs, ts, h => by
    have hne : xs ≠ [] := fun e => by rw [e] at h; cases h
    obtain ⟨ys, y, rfl⟩ : ∃ ys y, xs = ys ++ [y] := ⟨xs.dropLast, xs.getLast hne, (List.dropLast_concat_getLast hne).symm⟩
    have hl : ys.length = m := by simp at h; omega
    obtain ⟨e1, e2⟩ := put_on m hs ys (y :: ts) hl
    rw [List.replicate_succ, ← List.append_assoc, simA_false, finds_false]
    exact ⟨by rw [e1]; simp, e2⟩
/-- the first m things are taken. -/
theorem taken : ∀ (m : Nat) (hs xs ts : List Int), xs.length = m → simA (List.replicate m true) hs (xs ++ ts) = (hs ++ xs, ts) ∧ finds (List.replicate m true) hs (xs ++ ts)
  | 0, hs, xs, ts, h => by
    obtain rfl := List.length_eq_zero_iff.1 h
    rw [List.append_nil]
    exact ⟨rfl, trivial⟩
  | m + 1, hs, xs, ts, h => by
    cases xs with
    | nil => cases h
    | cons x xs =>
      have hl : xs.length = m := by simp at h; omega
      obtain ⟨e1, e2⟩ := taken m (hs ++ [x]) xs ts hl
      rw [List.replicate_succ]
      show simA (List.replicate m true) (hs ++ [x]) (xs ++ ts) = _ ∧ finds (List.replicate m true) (hs ++ [x]) (xs ++ ts)
      exact ⟨by rw [e1]; simp, e2⟩

/-- a stack without things; all are in hand. -/
theorem one_start (k : Nat) : One k (List.replicate (k + 1) 0) (upto k) [] := by
  refine ⟨sok_zero k, ?_, List.Perm.refl _⟩
  show hIx (getA (List.replicate (k + 1) 0) 0) = -1
  rw [getA_zero]
  unfold hIx
  omega
/-- StackBack's three tasks: all put on; the first m taken; put back. -/
theorem back_all (k m : Nat) (hm : m ≤ k) :
    (simA (List.replicate k false) (upto k) [] = ([], upto k) ∧ finds (List.replicate k false) (upto k) []) ∧
      (simA (List.replicate m true) [] (upto k) = ((upto k).take m, (upto k).drop m) ∧ finds (List.replicate m true) [] (upto k)) ∧
      (simA (List.replicate m false) ((upto k).take m) ((upto k).drop m) = ([], upto k) ∧ finds (List.replicate m false) ((upto k).take m) ((upto k).drop m)) := by
  have hl := upto_length k
  have ht : ((upto k).take m).length = m := by rw [List.length_take, hl]; omega
  have h1 := put_on k [] (upto k) [] hl
  have h2 := taken m [] ((upto k).take m) ((upto k).drop m) ht
  have h3 := put_on m [] ((upto k).take m) ((upto k).drop m) ht
  rw [List.take_append_drop] at h2 h3
  simp only [List.nil_append, List.append_nil] at h1 h2 h3
  exact ⟨h1, h2, h3⟩
end

end Go.Proofs.Ythjbmaeoogophaa

/- Slices of the call's own, one cell an element, whatever they have; bools among them. (Parted out of Q16.) -/
namespace Go.Proofs.Ythjbmaeoogophaa
open Go.RowKit Go.ChangeShapes Go.WideShapes

/-- the slice v, of the call's own from block B on, has the values vs, one cell each. -/
structure VRow (W : World) (B : Nat) (E : TypeId) (v : Value) (vs : List Value) : Prop where
  own : W.ownsRow B E 1 v vs.length vs
section
variable {W W' : World} {B : Nat} {E : TypeId} {v : Value} {vs : List Value}
theorem VRow.nil (W : World) (B : Nat) (E : TypeId) : VRow W B E (.slice none 0 0) [] := ⟨⟨rfl, .inl ⟨rfl, rfl⟩⟩⟩
theorem VRow.kept (h : VRow W B E v vs) (k : ∀ g, v.ownBlock = some g → W'.heap[g]? = W.heap[g]?) : VRow W' B E v vs := by
  refine ⟨⟨h.own.1, ?_⟩⟩
  rcases h.own.2 with h1 | ⟨g, cap, cur, h1, h2, h3, h4⟩
  · exact .inl h1
  · exact .inr ⟨g, cap, cur, h1, h2, (k g (by rw [h1]; rfl)).trans h3, h4⟩
theorem VRow.turns {L : List Nat} (h : VRow W B E v vs) (k : Turns L W W') (hL : ∀ g, v.ownBlock = some g → g ∉ L) : VRow W' B E v vs :=
  h.kept fun g hg => k.block g (h.own.lt g hg).2 (hL g hg)
theorem VRow.lies (h : VRow W B E v vs) {g : Nat} (hg : v.ownBlock = some g) : B ≤ g ∧ ∃ cur, Lies W g E cur := by
  rcases h.own.2 with ⟨rfl, _⟩ | ⟨g', cap, cur, rfl, h2, h3, _⟩
  · cases hg
  · simp [Value.ownBlock] at hg
    subst hg
    exact ⟨h2, cur, h3⟩
theorem VRow.slice (h : VRow W B E v vs) : ∃ A cp, v = .slice A vs.length cp ∧ vs.length ≤ maxLen ∧ (0 < vs.length → ∃ g, A = some ⟨g, 0, none⟩ ∧ v.ownBlock = some g ∧ ∀ i u, vs[i]? = some u → W.cell? ⟨g, i, none⟩ = some u) := by
  rcases h.own.2 with ⟨rfl, h0⟩ | ⟨g, cap, cur, rfl, h2, h3, h4, h5, _⟩
  · exact ⟨none, 0, by rw [h0], by simp [h0], fun hn => by omega⟩
  · refine ⟨_, _, rfl, by omega, fun hn => ⟨g, rfl, rfl, fun i u hu => ?_⟩⟩
    have := h.own.cells (g := g) rfl i u hu
    rwa [add_head4] at this

/-- one value more. -/
theorem wpList_vrow {T : TypeId} {z u : Value} {ops : Array Oper} {rest : List Oper} {o : Oper} {a : Act} {Q : Exit → Act → World → Prop} (hT : Try.prog.underlying T = some (.slice E)) {nb : Nat} (hinfo : (Try.prog.info? E).map (fun i => (i.zero, i.size, i.bytes)) = some (some z, 1, nb)) (hnb : nb ≤ 1000) (hz : z.cells.size = 1) (hu : u.oneCell' = true)
    (h : VRow W B E v vs) (hB : B ≤ W.heap.size) (hl : vs.length ≤ 10000) (hgd : Region.wanted o (yielded ops a.tmps) = true) (s x : Operand) (ho : o.op = .call { callee := .builtin .append, args := #[s, x], argTypes := #[T, T] })
    (hs : a.eval s = v) (hx : a.eval x = .slice (some ⟨W.heap.size, 0, none⟩) 1 1)
    (hK : ∀ v' w', VRow w' B E v' (vs ++ [u]) → Turns v.ownBlock.toList W w' → wpList Try.prog ops Q rest (a.put o.dst v') w') : wpList Try.prog ops Q (o :: rest) a (W.alloc (.cells #[u] E)) := by
  obtain ⟨i0, hi0, hz0, hz1, hz2⟩ := info_parts hinfo
  refine wpList_step fun K hK0 => ?_
  rw [if_pos hgd]
  refine wp_append_own _ s x T ho B E i0 _ 1 nb hT hi0 hz0 hz1 hz2 hz (by omega) v vs.length vs hs (h.own.alloc _) ⟨W.heap.size, 0, none⟩ 1 1 [u] hx rfl ?_ ?_ (by simp only [maxLen]; omega) (Nat.le_trans (Nat.mul_le_mul (show vs.length + 1 ≤ 10001 by omega) hnb) (by omega)) (by simp; omega) ?_
  · intro j y hy
    match j, hy with
    | 0, hy =>
      simp at hy
      subst hy
      simp [Addr.add]
  · intro y hy
    simp at hy
    subst hy
    exact hu
  · intro v' w' h1 h2 _
    refine hK0 _ _ (hK v' w' ⟨by simpa using h1⟩ ⟨h2.os, h2.tape, h2.output, ?_, fun k hk hn => ?_⟩)
    · have := h2.size
      simp at this
      omega
    · rw [h2.block k (by simp; omega) (fun e => hn (by rw [← e]; simp))]
      exact Below.heap_alloc W _ k hk
end


section
variable {W : World} {B : Nat} {E : TypeId} {v : Value} {vs : List Value}
/-- a slice that isn't nil, without elements. -/
theorem VRow.empty (W : World) (E : TypeId) (hB : B ≤ W.heap.size) : VRow (W.alloc (.cells #[] E)) B E (.slice (some ⟨W.heap.size, 0, none⟩) 0 0) [] :=
  ⟨⟨rfl, .inr ⟨W.heap.size, 0, #[], rfl, hB, heap_alloc_new W _, Nat.le_refl _, by simp [maxLen], rfl, rfl⟩⟩⟩
/-- bools of the call's own, as code() wants them. -/
theorem VRow.bl {P : SP} {bs : List Bool} (h : VRow W B 4 v (bs.map Value.bool)) (hn : bs.length ≤ 100000) (h1 : ∀ g, v.ownBlock = some g → g ∉ P.L ++ P.ex) (h2 : ∀ g, v.ownBlock = some g → ¬ Rw P.ws W g) : ∃ A cp, v = .slice A bs.length cp ∧ bs.length ≤ cp ∧ BL P W A bs := by
  rcases h.own.2 with ⟨rfl, h0⟩ | ⟨g, cap, cur, rfl, _, h3, h4, _⟩
  · rw [List.length_map] at h0
    exact ⟨none, 0, by rw [h0], by omega, hn, fun hp => by omega⟩
  · rw [List.length_map] at h4 ⊢
    have hl : Lies W g 4 cur := h3
    refine ⟨_, cap, rfl, h4, BL.new (n := bs.length) hl rfl (fun i hi => ?_) hn (h1 g rfl) (h2 g rfl)⟩
    have := h.own.cells (g := g) rfl i (.bool (bs.getD i false)) (by simp [List.getD, hi])
    rw [add_head4, hl.cell i] at this
    exact this
end

end Go.Proofs.Ythjbmaeoogophaa

/- Layer 8: what the law writes of its own leaves the state as it is. -/
namespace Go.Proofs.Ythjbmaeoogophaa
open Go.RowKit
set_option maxRecDepth 100000

section
variable {P : SP} {r : Nat} {s : SSt} {W W' : World} {K : List Nat}
/-- a block of a type that the state has not is apart from it. -/
theorem SI.apart_ty (h : SI P r s W) {g : Nat} {t : TypeId} {cs : Array Value} (l : Lies W g t cs) (h1 : t ≠ 101) (h2 : t ≠ 111) (h3 : t ≠ 34) (h4 : t ≠ 3) (h5 : t ≠ 31 ∨ ∀ j, j < P.nw → P.gp j = none) : g ∉ P.L ∧ ¬ Rw P.ws W g := by
  refine ⟨fun hm => ?_, fun hr => ?_⟩
  · rcases SP.L_mem.1 hm with rfl | rfl | ⟨j, hj, rfl⟩ | ⟨j, hj, hg⟩
    · exact l.unlike h.ar.head h1 rfl
    · exact l.unlike h.ar.body h2 rfl
    · obtain ⟨v, hl, _⟩ := h.wk j hj
      exact l.unlike hl h3 rfl
    · obtain ⟨v, hl, _⟩ := h.gt j g hj hg
      rcases h5 with h5 | h5
      · exact l.unlike hl h5 rfl
      · rw [h5 j hj] at hg
        cases hg
  · obtain ⟨_, cur, hl⟩ := h.rw hr
    exact l.unlike hl h4 rfl
theorem SI.bools (h : SI P r s W) {g : Nat} {cs : Array Value} (l : Lies W g 4 cs) : g ∉ P.L ∧ ¬ Rw P.ws W g := h.apart_ty l (by decide) (by decide) (by decide) (by decide) (.inl (by decide))
theorem SI.turns (h : SI P r s W) (t : Turns K W W') (hK : ∀ b, b ∈ K → b ∉ P.L ∧ ¬ Rw P.ws W b) : SI P r s W' :=
  h.keep (fun b hb hm => t.block b hb fun hk => by
    rcases hm with h1 | h1
    · exact (hK b hk).1 h1
    · exact (hK b hk).2 h1) t.size
/-- the cells that tell rows are as they were, and so are the rows. -/
theorem SI.rows_turns (hG : P.Good) (h : SI P r s W) (t : Turns K W W') (hK : ∀ b, b ∈ K → b ∉ P.L) {b : Nat} (q : Rw P.ws W' b) : Rw P.ws W b :=
  q.same fun x hx => t.cell (h.block_lt hx) fun hk => hK _ hk ((sm_ok P hG).cells x hx)
theorem Gm.Bx.turns (hG : P.Good) (h : SI P r s W) {b : Nat} {t : TypeId} {cs : Array Value} (x : (SM P).Bx W b t cs) (k : Turns K W W') (hK : ∀ c, c ∈ K → c ∉ P.L) (hb : b ∉ K) : (SM P).Bx W' b t cs :=
  ⟨x.l.turn k hb, x.out, fun q => x.row (SI.rows_turns hG h k hK q), x.ty, x.outX⟩
/-- a slice of bools of the law's own, behind what the machine wrote. -/
theorem VRow.fr {B : Nat} {v : Value} {vs : List Value} (h : SI P r s W) (x : VRow W B 4 v vs) (f : Fr P.L P.ws W W') : VRow W' B 4 v vs :=
  x.kept fun g hg => by
    obtain ⟨_, cur, hl⟩ := x.lies hg
    exact f.block g hl.lt (h.bools hl).1 (h.bools hl).2
/-- the state, behind a bool that was appended. -/
theorem SI.vrow {B : Nat} {v : Value} {vs : List Value} (h : SI P r s W) (x : VRow W B 4 v vs) (t : Turns v.ownBlock.toList W W') : SI P r s W' :=
  h.turns t fun b hb => by
    obtain ⟨_, cur, hl⟩ := x.lies (g := b) (by simpa using hb)
    exact h.bools hl
end

end Go.Proofs.Ythjbmaeoogophaa

/- Layer 8: StackBack's two first loops: what holds there. -/
namespace Go.Proofs.Ythjbmaeoogophaa
open Go.RowKit
set_option maxRecDepth 100000

/-- while the worker's hands are filled. -/
structure Fill (w0 : World) (P : SP) (bx B0 k m : Nat) (gt : Nat) (pv : Value) (W : World) : Prop where
  si : ∃ s, SI P 600 s W ∧ s.hs 0 = upto m ∧ s.l = List.replicate (k + 1) 0 ∧ s.wr 0 = false ∧ s.k = 0
  box : (SM P).Bx W bx 27 (stC P)
  puts : VRow W B0 4 pv ((List.replicate m false).map Value.bool)
  there : Lies W gt 4 #[]
  two : pv.ownBlock ≠ some gt
  le : m ≤ k
  be : Below B0 w0 W

/-- while the Pops are counted out. -/
structure There (w0 : World) (P : SP) (bx B0 k m0 j : Nat) (pv tv : Value) (W : World) : Prop where
  si : ∃ s, SI P 600 s W ∧ s.hs 0 = upto k ∧ s.l = List.replicate (k + 1) 0 ∧ s.wr 0 = false ∧ s.k = 0
  box : (SM P).Bx W bx 27 (stC P)
  puts : VRow W B0 4 pv ((List.replicate k false).map Value.bool)
  there : VRow W B0 4 tv ((List.replicate j true).map Value.bool)
  two : ∀ g, pv.ownBlock = some g → tv.ownBlock ≠ some g
  le : j ≤ m0
  few : m0 ≤ k
  be : Below B0 w0 W
theorem There.next {w0 : World} {P : SP} {bx B0 k m0 j : Nat} {pv tv tv' : Value} {W W' : World} (hG : P.Good) (hB0 : B0 ≤ w0.heap.size) (h : There w0 P bx B0 k m0 j pv tv W) (hj : j < m0) (x : VRow W' B0 4 tv' ((List.replicate j true).map Value.bool ++ [.bool true])) (t : Turns tv.ownBlock.toList W W') : There w0 P bx B0 k m0 (j + 1) pv tv' W' := by
  obtain ⟨s, hi, hs⟩ := h.si
  have hK : ∀ b, b ∈ tv.ownBlock.toList → b ∉ P.L ∧ ¬ Rw P.ws W b := fun b hb => by
    obtain ⟨_, cur, hl⟩ := h.there.lies (g := b) (by simpa using hb)
    exact hi.bools hl
  have hp : VRow W' B0 4 pv ((List.replicate k false).map Value.bool) := h.puts.turns t fun g hg hk => h.two g hg (by simpa using hk)
  refine ⟨⟨s, hi.vrow h.there t, hs⟩, Gm.Bx.turns hG hi h.box t (fun b hb => (hK b hb).1) (fun hb => ?_), hp, ?_, fun g hg e => ?_, by omega, h.few, h.be.trans (t.below (fun b hb => (h.there.lies (by simpa using hb)).1) (Nat.le_trans hB0 h.be.size))⟩
  · obtain ⟨_, cur, hl⟩ := h.there.lies (g := bx) (by simpa using hb)
    exact hl.unlike h.box.l (by decide) rfl
  · rw [List.replicate_succ', List.map_append]
    exact x
  · have hk := h.few
    have c1 := hp.own.cells (g := g) hg 0 (.bool false) (by rw [List.getElem?_map, List.getElem?_replicate, if_pos (by omega)]; rfl)
    have c2 := x.own.cells (g := g) e 0 (.bool true) (by
      cases j with
      | zero => rfl
      | succ j => simp [List.replicate_succ])
    rw [c1] at c2
    injection c2 with c2
    injection c2 with c2
    cases c2

end Go.Proofs.Ythjbmaeoogophaa

/- Slices of slices. (Parted out of Q18.) -/
namespace Go.Proofs.Ythjbmaeoogophaa
open Go.RowKit Go.ChangeShapes Go.WideShapes

/-- where the first k of a slice lie, and the others. -/
theorem slice_to {t : TypeId} {e : TypeId} (ht : Try.prog.underlying t = some (.slice e)) (h1 : (Try.prog.info? e).map (·.size) = some 1) (A : Option Addr) (n cp k : Nat) (hk : k ≤ cp) (W : World) :
    (Instr.sliceAt t (.slice A n cp) none (some (.int .i64 (k : Int))) none).run Try.prog W = .ok (.slice (if cp = 0 then A else A.map (·.add 0)) k cp) W := by
  obtain ⟨i, hi, hz⟩ := Option.map_eq_some_iff.1 h1
  simp [Instr.sliceAt, Instr.slice, run_underlying ht, Instr.sliceBounds, Instr.sliceBound, asIntOf, sizeOf, typeInfo, hi]
  intro h; omega
theorem slice_from {t : TypeId} {e : TypeId} (ht : Try.prog.underlying t = some (.slice e)) (h1 : (Try.prog.info? e).map (·.size) = some 1) (A : Option Addr) (n cp k : Nat) (hk : k ≤ n) (W : World) :
    (Instr.sliceAt t (.slice A n cp) (some (.int .i64 (k : Int))) none none).run Try.prog W = .ok (.slice (if cp = k then A else A.map (·.add k)) (n - k) (cp - k)) W := by
  obtain ⟨i, hi, hz⟩ := Option.map_eq_some_iff.1 h1
  simp [Instr.sliceAt, Instr.slice, run_underlying ht, Instr.sliceBounds, Instr.sliceBound, asIntOf, sizeOf, typeInfo, hi, hz]
  intro h; omega

theorem add_zero' (a : Addr) : a.add 0 = a := by simp [Addr.add]
section
variable {w : World} {A : Option Addr} {n k cp : Nat} {xs : List Int}
theorem Row.take (h : Row w .i64 A n xs) (hk : k ≤ n) (A' : Option Addr) (hA : A' = (if cp = 0 then A else A.map (·.add 0))) : Row w .i64 A' k (xs.take k) := by
  have e : A' = A := by
    rw [hA]
    split
    · rfl
    · cases A <;> simp [add_zero']
  subst e
  have hl := h.len
  refine ⟨by simp; omega, by have := h.most; omega, fun x hx => h.wf x (List.mem_of_mem_take hx), fun hn => ?_⟩
  obtain ⟨a, e, h1, h2⟩ := h.at_ (by omega)
  refine ⟨a, e, h1, fun i hi => ?_⟩
  rw [h2 i (by omega)]
  simp [List.getD, hi]
theorem Row.drop (h : Row w .i64 A n xs) (hk : k ≤ n) (hcp : n ≤ cp) (A' : Option Addr) (hA : A' = (if cp = k then A else A.map (·.add k))) : Row w .i64 A' (n - k) (xs.drop k) := by
  have hl := h.len
  refine ⟨by simp; omega, by have := h.most; omega, fun x hx => h.wf x (List.mem_of_mem_drop hx), fun hn => ?_⟩
  obtain ⟨a, e, h1, h2⟩ := h.at_ (by omega)
  subst e
  rw [if_neg (by omega)] at hA
  refine ⟨a.add k, by rw [hA]; rfl, by rw [add_block]; exact h1, fun i hi => ?_⟩
  rw [Go.Deep.add_add, h2 (k + i) (by omega)]
  simp [List.getD, List.getElem?_drop]
end

end Go.Proofs.Ythjbmaeoogophaa

/- Layer 8: StackBack's last loop: what holds there. -/
namespace Go.Proofs.Ythjbmaeoogophaa
open Go.RowKit Go.ChangeShapes Go.WideShapes
set_option maxRecDepth 100000

theorem made_bools (n : Nat) : madeCells #[.bool false] n = ((List.replicate n false).map Value.bool).toArray := by
  apply Array.ext
  · simp [madeCells]
  · intro i h1 h2
    simp [madeCells, Nat.mod_one]
theorem make_bools (n : Nat) (hn : n ≤ 1048576) (W : World) :
    (Instr.makeSlice 22 (.int .i64 (n : Int)) (.int .i64 (n : Int))).run Try.prog W = .ok (.slice (some ⟨W.heap.size, 0, none⟩) n n) (W.alloc (.cells ((List.replicate n false).map Value.bool).toArray 4)) := by
  obtain ⟨i, hi, hz, hs, hb⟩ := info_parts (P := Try.prog) (t := 4) (z := .bool false) (s := 1) (b := 1) (by kernel_rfl)
  have hr := run_make (P := Try.prog) W 22 4 i _ Try.underlying22 hi hz .i64 .i64 n n (by omega) (by omega) (by rw [hb]; omega) (by omega)
  simp only [Int.toNat_natCast, hs, Nat.mul_one] at hr
  rw [hr, ← made_bools]
  rfl
theorem VRow.made (W : World) {B : Nat} (n : Nat) (hn : n ≤ 1000) (hB : B ≤ W.heap.size) : VRow (W.alloc (.cells ((List.replicate n false).map Value.bool).toArray 4)) B 4 (.slice (some ⟨W.heap.size, 0, none⟩) n n) ((List.replicate n false).map Value.bool) :=
  ⟨⟨by simp, .inr ⟨W.heap.size, n, _, by simp, hB, heap_alloc_new W _, by simp, by simp only [maxLen]; omega, by simp, by simp⟩⟩⟩

theorem Fr.past {L : List Nat} {ws : List Addr} {a w w' : World} {t : Nat} (h : Fr L ws a w) (k : Fr (t :: L) ws w w') (ht : a.heap.size ≤ t) : Fr L ws a w' :=
  ⟨k.os.trans h.os, k.tape.trans h.tape, k.output.trans h.output, Nat.le_trans h.size k.size,
   fun b hb hn hr => (k.block b (Nat.lt_of_lt_of_le hb h.size) (fun hm => by
     rcases List.mem_cons.1 hm with h1 | h1
     · omega
     · exact hn h1) (fun q => hr (h.rows b hb q))).trans (h.block b hb hn hr),
   fun b hb q => h.rows b hb (k.rows b (Nat.lt_of_lt_of_le hb h.size) q)⟩

section
variable {P : SP} {r B : Nat} {s : SSt} {W W' : World} {v : Value} {xs : List Int} {K : List Nat}
theorem SI.down {P : SP} {s : SSt} {W : World} (hG : P.Good) {r r' : Nat} (h : SI P r s W) (k : r' ≤ r) : SI P r' s W := by
  obtain ⟨d, rfl⟩ : ∃ d, r = r' + d := ⟨r - r', by omega⟩
  clear k
  induction d with
  | zero => exact h
  | succ d ih => exact ih ((sm_ok P hG).less _ _ _ h)

/-- a list that the stack told: the machine never writes it. -/
structure LRow (P : SP) (B : Nat) (v : Value) (xs : List Int) (W : World) : Prop where
  row : IRow W B v xs
  out : ∀ g, v.ownBlock = some g → g ∉ P.L ∧ ¬ Rw P.ws W g
theorem LRow.fr (h : LRow P B v xs W) (f : Fr P.L P.ws W W') : LRow P B v xs W' :=
  ⟨h.row.kept fun g hg => f.block g (h.row.lt g hg).2 (h.out g hg).1 (h.out g hg).2, fun g hg => ⟨(h.out g hg).1, f.row (h.row.lt g hg).2 (h.out g hg).2⟩⟩
theorem LRow.turns (hG : P.Good) (hi : SI P r s W) (h : LRow P B v xs W) (t : Turns K W W') (hK : ∀ b, b ∈ K → b ∉ P.L) (hn : ∀ g, v.ownBlock = some g → g ∉ K) : LRow P B v xs W' :=
  ⟨h.row.kept fun g hg => t.block g (h.row.lt g hg).2 (hn g hg), fun g hg => ⟨(h.out g hg).1, fun q => (h.out g hg).2 (SI.rows_turns hG hi t hK q)⟩⟩
theorem LRow.new (hG : P.Good) (hi : SI P r s W) (h : IRow W' W.heap.size v xs) (b : Below W.heap.size W W') (hB : B ≤ W.heap.size) : LRow P B v xs W' := by
  have t : Turns [] W W' := Turns.of_below b (Nat.le_refl _)
  refine ⟨h.less hB, fun g hg => ⟨fun hm => ?_, fun q => ?_⟩⟩
  · have h1 := (h.lt g hg).1
    have h2 := ((sm_ok P hG).okw _ _ _ hi).lt g hm
    omega
  · have h1 := (h.lt g hg).1
    obtain ⟨_, cur, hl⟩ := hi.rw (SI.rows_turns hG hi t (by simp) q)
    have := hl.lt
    omega
theorem VRow.frE {E : TypeId} {vs : List Value} (h : SI P r s W) (x : VRow W B E v vs) (f : Fr P.L P.ws W W') (h1 : E ≠ 101) (h2 : E ≠ 111) (h3 : E ≠ 34) (h4 : E ≠ 3) (h5 : E ≠ 31 ∨ ∀ j, j < P.nw → P.gp j = none) : VRow W' B E v vs :=
  x.kept fun g hg => by
    obtain ⟨_, cur, hl⟩ := x.lies hg
    have := h.apart_ty hl h1 h2 h3 h4 h5
    exact f.block g hl.lt this.1 this.2
end

/-- StackBack's three tasks: their acts; what is in hand, and what lies on the stack, ahead of each. -/
def bsAt (k m0 : Nat) : Nat → List Bool
  | 0 => List.replicate k false
  | 1 => List.replicate m0 true
  | _ => List.replicate m0 false
def hsAt (k m0 : Nat) : Nat → List Int
  | 0 => upto k
  | 2 => (upto k).take m0
  | _ => []
def tsAt (k m0 : Nat) : Nat → List Int
  | 0 => []
  | 2 => (upto k).drop m0
  | _ => upto k
theorem back_step {k m0 j : Nat} (hm : m0 ≤ k) (hj : j < 3) : simA (bsAt k m0 j) (hsAt k m0 j) (tsAt k m0 j) = (hsAt k m0 (j + 1), tsAt k m0 (j + 1)) ∧ finds (bsAt k m0 j) (hsAt k m0 j) (tsAt k m0 j) := by
  obtain ⟨h0, h1, h2⟩ := back_all k m0 hm
  rcases (by omega : j = 0 ∨ j = 1 ∨ j = 2) with rfl | rfl | rfl
  · exact h0
  · exact h1
  · exact h2
theorem bsAt_len {k m0 j : Nat} (hm : m0 ≤ k) : (bsAt k m0 j).length ≤ k := by
  unfold bsAt
  split <;> simp <;> omega
def slAt (pv tv kv : Value) : Nat → Value
  | 0 => pv
  | 1 => tv
  | _ => kv

/-- in StackBack's last loop: j tasks are through. -/
structure Bk (w0 : World) (P : SP) (bx B0 k m0 g3 : Nat) (pv tv kv : Value) (j : Nat) (lv : Value) (W : World) : Prop where
  si : ∃ s, SI P (200 * (3 - j)) s W ∧ One k s.l (s.hs 0) (tsAt k m0 j) ∧ s.hs 0 = hsAt k m0 j ∧ s.wr 0 = false
  box : (SM P).Bx W bx 27 (stC P)
  sl : ∀ i, i < 3 → VRow W B0 4 (slAt pv tv kv i) ((bsAt k m0 i).map Value.bool)
  all : Lies W g3 22 #[pv, tv, kv]
  lists : ∃ vs, VRow W B0 31 lv vs ∧ vs.length = j ∧ ∀ i u, vs[i]? = some u → LRow P B0 u (tsAt k m0 (i + 1)) W
  le : j ≤ 3
  be : Below B0 w0 W

theorem Bk.zero {w0 : World} {P : SP} {bx B0 k m0 : Nat} {pv tv : Value} {W : World} (hG : P.Good) (h : There w0 P bx B0 k m0 m0 pv tv W) (hB : B0 ≤ W.heap.size) (hm : m0 ≤ 1000) :
    Bk w0 P bx B0 k m0 (W.heap.size + 1 + 1) pv tv (.slice (some ⟨W.heap.size, 0, none⟩) m0 m0) 0 (.slice (some ⟨W.heap.size + 1, 0, none⟩) 0 0) (((W.alloc (.cells ((List.replicate m0 false).map Value.bool).toArray 4)).alloc (.cells #[] 31)).alloc (.cells #[pv, tv, .slice (some ⟨W.heap.size, 0, none⟩) m0 m0] 22)) := by
  obtain ⟨s, hi, e1, e2, e3, e4⟩ := h.si
  obtain ⟨X1, hX1⟩ : ∃ X1, W.alloc (.cells ((List.replicate m0 false).map Value.bool).toArray 4) = X1 := ⟨_, rfl⟩
  have v0 : VRow X1 B0 4 (.slice (some ⟨W.heap.size, 0, none⟩) m0 m0) ((List.replicate m0 false).map Value.bool) := by rw [← hX1]; exact VRow.made W m0 hm hB
  have k1 : Turns [] W X1 := by rw [← hX1]; exact (Turns.refl _ _).alloc _
  have z1 : X1.heap.size = W.heap.size + 1 := by rw [← hX1]; simp
  rw [hX1]
  obtain ⟨X2, hX2⟩ : ∃ X2, X1.alloc (.cells #[] 31) = X2 := ⟨_, rfl⟩
  have v1 : VRow X2 B0 31 (.slice (some ⟨W.heap.size + 1, 0, none⟩) 0 0) [] := by rw [← hX2, ← z1]; exact VRow.empty X1 31 (by omega)
  have k2 : Turns [] X1 X2 := by rw [← hX2]; exact (Turns.refl _ _).alloc _
  have z2 : X2.heap.size = W.heap.size + 1 + 1 := by rw [← hX2]; simp [z1]
  rw [hX2]
  have k3 : Turns [] X2 (X2.alloc (.cells #[pv, tv, .slice (some ⟨W.heap.size, 0, none⟩) m0 m0] 22)) := (Turns.refl _ _).alloc _
  have kk := (k1.trans k2).trans k3
  refine ⟨⟨s, hi.turns kk (by simp), ?_, e1, e3⟩, Gm.Bx.turns hG hi h.box kk (by simp) (by simp), fun i hi3 => ?_, Lies.new_of _ _ z2, ⟨[], v1.turns k3 (by simp), rfl, fun i u hu => by simp at hu⟩, by omega, h.be.trans (kk.below (by simp) hB)⟩
  · rw [e2, e1]; exact one_start k
  · rcases (by omega : i = 0 ∨ i = 1 ∨ i = 2) with rfl | rfl | rfl
    · exact h.puts.turns kk (by simp)
    · exact h.there.turns kk (by simp)
    · exact v0.turns (k2.trans k3) (by simp)

theorem Bk.next {w0 : World} {P : SP} {bx B0 k m0 g3 j : Nat} {pv tv kv lv lv' u : Value} {W W9 W10 W11 : World} {vs : List Value} {s' : SSt} (hG : P.Good) (hgp : ∀ j, j < P.nw → P.gp j = none) (hPB : B0 ≤ P.B) (h : Bk w0 P bx B0 k m0 g3 pv tv kv j lv W) (hj : j < 3) (hB : B0 ≤ W.heap.size)
    (f : Fr P.L P.ws W W9) (hi : SI P (200 * (3 - (j + 1))) s' W9) (ho : One k s'.l (s'.hs 0) (tsAt k m0 (j + 1))) (hh : s'.hs 0 = hsAt k m0 (j + 1)) (hw : s'.wr 0 = false)
    (b : Below W9.heap.size W9 W10) (hr : IRow W10 W9.heap.size u (tsAt k m0 (j + 1)))
    (hvs : VRow W B0 31 lv vs ∧ vs.length = j ∧ ∀ i u, vs[i]? = some u → LRow P B0 u (tsAt k m0 (i + 1)) W)
    (x : VRow W11 B0 31 lv' (vs ++ [u])) (t : Turns lv.ownBlock.toList W10 W11) : Bk w0 P bx B0 k m0 g3 pv tv kv (j + 1) lv' W11 := by
  obtain ⟨s, hi0, _⟩ := h.si
  have ap : ∀ {X : World} {r : Nat} {sx : SSt} {g : Nat} {cs : Array Value}, SI P r sx X → Lies X g 31 cs → g ∉ P.L ∧ ¬ Rw P.ws X g := fun h1 h2 => h1.apart_ty h2 (by decide) (by decide) (by decide) (by decide) (.inr hgp)
  have ab : ∀ {X : World} {r : Nat} {sx : SSt} {g : Nat} {cs : Array Value}, SI P r sx X → Lies X g 22 cs → g ∉ P.L ∧ ¬ Rw P.ws X g := fun h1 h2 => h1.apart_ty h2 (by decide) (by decide) (by decide) (by decide) (.inl (by decide))
  have t10 : Turns [] W9 W10 := Turns.of_below b (Nat.le_refl _)
  have hl9 : VRow W9 B0 31 lv vs := hvs.1.frE hi0 f (by decide) (by decide) (by decide) (by decide) (.inr hgp)
  have hl10 := hl9.turns t10 (by simp)
  have hi10 := hi.turns t10 (by simp)
  have hK : ∀ b, b ∈ lv.ownBlock.toList → b ∉ P.L ∧ ¬ Rw P.ws W10 b := fun b hb => by
    obtain ⟨_, cur, hl⟩ := hl10.lies (g := b) (by simpa using hb)
    exact ap hi10 hl
  have nL : ∀ {g : Nat} {ty : TypeId} {cs : Array Value}, Lies W10 g ty cs → ty ≠ 31 → g ∉ lv.ownBlock.toList := fun hl hne hm => by
    obtain ⟨_, cur, hl2⟩ := hl10.lies (g := _) (by simpa using hm)
    exact hl.unlike hl2 hne rfl
  have f10 : Fr P.L P.ws W W10 := f.trans (((sm_ok P hG).okw _ _ _ hi).fr (sm_ok P hG) t10)
  have box10 := h.box.mv f10.mv
  have irow : ∀ {g : Nat} {v : Value} {xs : List Int}, IRow W10 B0 v xs → v.ownBlock = some g → g ∉ lv.ownBlock.toList := fun hr hg => by
    rcases hr.own.2 with ⟨rfl, _⟩ | ⟨g', cap, cur, rfl, _, hb, _⟩
    · cases hg
    · simp [Value.ownBlock] at hg
      subst hg
      exact nL (ty := 3) hb (by decide)
  refine ⟨⟨s', hi10.turns t hK, ho, hh, hw⟩, Gm.Bx.turns hG hi10 box10 t (fun b hb => (hK b hb).1) (nL box10.l (by decide)), fun i hi3 => ?_, ?_, ⟨vs ++ [u], x, by simp [hvs.2.1], fun i y hy => ?_⟩, by omega, ?_⟩
  · have h1 := (h.sl i hi3).fr hi0 f10
    refine h1.turns t fun g hg => ?_
    obtain ⟨_, cur, hl⟩ := h1.lies hg
    exact nL hl (by decide)
  · have h1 := f10.lies h.all (ab hi0 h.all).1 (ab hi0 h.all).2
    exact h1.turn t (nL h1 (by decide))
  · by_cases hy2 : i < vs.length
    · rw [List.getElem?_append_left hy2] at hy
      have h1 := (hvs.2.2 i y hy).fr f10
      exact h1.turns hG hi10 t (fun b hb => (hK b hb).1) (fun g hg => irow h1.row hg)
    · rw [List.getElem?_append_right (by omega)] at hy
      have hi0' : i = vs.length := by
        rcases Nat.lt_or_ge vs.length i with h1 | h1
        · rw [List.getElem?_eq_none (by simp; omega)] at hy; cases hy
        · omega
      rw [hi0', Nat.sub_self] at hy
      simp at hy
      subst hy
      have h1 : LRow P B0 u (tsAt k m0 (j + 1)) W10 := LRow.new hG hi hr b (Nat.le_trans hB f.size)
      rw [hi0', hvs.2.1]
      exact h1.turns hG hi10 t (fun b hb => (hK b hb).1) (fun g hg => irow h1.row hg)
  · have s9 := Nat.le_trans hB f.size
    exact ((h.be.trans ((hi0.below hG (fun b hb => .inl hb) f).mono hPB)).trans (b.mono s9)).trans (t.below (fun b hb => (hl10.lies (by simpa using hb)).1) (Nat.le_trans s9 b.size))

theorem ints_info8 : (Try.prog.info? 31).map (fun i => (i.zero, i.size, i.bytes)) = some (some (.slice none 0 0), 1, 24) := by kernel_rfl

end Go.Proofs.Ythjbmaeoogophaa

/- Code that is made where not all is there yet: it does what each machine says whose other blocks come later. -/
namespace Go.Proofs.Ythjbmaeoogophaa
open Go.RowKit
set_option maxRecDepth 100000

section
variable {St Pr ι : Type} (M : ι → Gm St Pr) (E : ι → Nat → Prop)
/-- machines, as a world has them: what they have besides lies from n on. -/
structure Fam (w : World) : Prop where
  lt : ∀ i n b, E i n → b ∈ (M i).L ++ (M i).X → b < w.heap.size ∨ n ≤ b
  row : ∀ i n b, E i n → w.heap.size ≤ n → Rw (M i).ws w b → b < w.heap.size
  cells : ∀ i x, x ∈ (M i).ws → x.block ∈ (M i).L
  low : ∀ i n n', E i n → n' ≤ n → E i n'
def MakesF (m : Nat) (q : Pr) (f : FuncId) (args : Array Value) (w : World) : Prop :=
  Calls Try.prog f args w fun e w' => ∃ v, e = .returned v ∧ (∀ i, E i w'.heap.size → (M i).Code m q v w') ∧ Turns [] w w'
variable {M E} {w w' : World} {i : ι} {n : Nat}
theorem Fam.rw (h : Fam M E w) (k : Turns [] w w') (hi : E i n) (hn : w'.heap.size ≤ n) {b : Nat} (q : Rw (M i).ws w' b) : Rw (M i).ws w b := by
  obtain ⟨a, ha, o, m, c, e⟩ := q
  refine ⟨a, ha, o, m, c, ?_⟩
  rcases h.lt i n a.block hi (List.mem_append.2 (.inl (h.cells i a ha))) with h1 | h1
  · exact (k.cell h1 (by simp)).symm.trans e
  · have := cell_block e
    omega
theorem Fam.made (h : Fam M E w) (k : Turns [] w w') : Fam M E w' :=
  ⟨fun i n b hi hb => (h.lt i n b hi hb).imp (fun x => Nat.lt_of_lt_of_le x k.size) id, fun i n b hi hn q => Nat.lt_of_lt_of_le (h.row i n b hi (Nat.le_trans k.size hn) (h.rw k hi hn q)) k.size, h.cells, h.low⟩
theorem Fam.mv (h : Fam M E w) (k : Turns [] w w') (hi : E i n) (hn : w'.heap.size ≤ n) : Mv (M i).B ((M i).L ++ (M i).X) (M i).ws w w' :=
  ⟨k.os, k.tape, k.output, k.size, fun b hb _ _ => .inl (k.block b hb (by simp)), fun b _ q => h.rw k hi hn q⟩
theorem Fam.box (h : Fam M E w) (k : Turns [] w w') (hi : E i n) (hn : w'.heap.size ≤ n) {b : Nat} {t : TypeId} {cs : Array Value} (hb : w.heap.size ≤ b) (l : Lies w' b t cs) (ht : t ∉ loose) : (M i).Bx w' b t cs := by
  have hlt := l.lt
  refine ⟨l, fun hm => ?_, fun q => ?_, ht, fun hm => ?_⟩
  · rcases h.lt i n b hi (List.mem_append.2 (.inl hm)) with h1 | h1 <;> omega
  · have := h.row i n b hi (Nat.le_trans k.size hn) (h.rw k hi hn q)
    omega
  · rcases h.lt i n b hi (List.mem_append.2 (.inr hm)) with h1 | h1 <;> omega

variable {p c m f : Nat} {h : Int} {lf : FuncId} {lcap cap : Array Value} {lk : Int → Int} {q : ι → Pr}
end

section
variable {St Pr ι : Type} {M : ι → Gm St Pr} {E : ι → Nat → Prop} {w : World} {p c m f : Nat} {h : Int} {lf : FuncId} {lcap cap : Array Value} {lk : Int → Int} {qR : Pr}
theorem load_f {j : Int} (A : ∀ i, (M i).Ar p c) (hM : ∀ i, (M i).Ok) {V : ι → Int → St → Prop} (hV : ∀ i s, (A i).ok ((A i).l s) → (M i).W qR s → V i (getA ((A i).l s) j) ((A i).put s ((A i).l s) (moreA ((A i).l s) j ((A i).k s)))) {T : ι → Int → St → Pr × St} (hE : Ent f) (hw : Fam M E w) (hq : ∀ i, (M i).ended qR = false) (hT : ∀ i, E i w.heap.size → (M i).Cont m f cap w (fun x s => N64 x ∧ V i x s) (fun x => #[.int .u64 x]) (T i))
    (hs : ∀ i s, (M i).step qR s = T i (getA ((A i).l s) j) ((A i).put s ((A i).l s) (moreA ((A i).l s) j ((A i).k s)))) :
    MakesF M E m qR 48 #[ptr p, .int .i64 j, .func (.func f) #[] cap] w := by
  unfold MakesF
  refine (mkload_any _ _ _ _ w).mono ?_
  rintro e w' ⟨rfl, rfl⟩
  have k : Turns [] w (((w.alloc (.cells #[ptr p] 24)).alloc (.cells #[.int .i64 j] 3)).alloc (.cells #[.func (.func f) #[] cap] 105)) := (((Turns.refl _ _).alloc _).alloc _).alloc _
  exact ⟨_, rfl, fun i hi => load1_g (A i) (hM i) (hV i) hE (hw.box k hi (Nat.le_refl _) (by omega) (Lies.new_of _ _ (by simp)) (by decide)) (hw.box k hi (Nat.le_refl _) (by omega) (((Lies.new _ _ _).alloc _).alloc _) (by decide)) (hw.box k hi (Nat.le_refl _) (by omega) ((Lies.new_of _ _ (by simp)).alloc _) (by decide)) (hq i) ((hT i (hw.low _ _ _ hi k.size)).mv (hw.mv k hi (Nat.le_refl _))) (hs i), k⟩

theorem read_f (A : ∀ i, (M i).Ar p c) (hM : ∀ i, (M i).Ok) {V : ι → Int → St → Prop} (hV : ∀ i s, (A i).ok ((A i).l s) → (M i).W qR s → V i (getA ((A i).l s) h) ((A i).put s ((A i).l s) (moreA ((A i).l s) h ((A i).k s)))) {T : ι → Int → St → Pr × St} (hE : Ent f) (hw : Fam M E w) (hq : ∀ i, (M i).ended qR = false) (hT : ∀ i, E i w.heap.size → (M i).Cont m f cap w (fun x s => N64 x ∧ V i x s) (fun x => #[.int .u64 x, .int .i64 (hIx x)]) (T i))
    (hs : ∀ i s, (M i).step qR s = T i (getA ((A i).l s) h) ((A i).put s ((A i).l s) (moreA ((A i).l s) h ((A i).k s)))) :
    MakesF M E m qR 62 #[chV p h lf lcap, .func (.func f) #[] cap] w := by
  have hmf := hmf_run
  have k2 : Turns [] w ((w.alloc (.cells (chC p h lf lcap) 93)).alloc (.cells #[.func (.func f) #[] cap] 117)) := ((Turns.refl _ _).alloc _).alloc _
  have l0 : Lies ((w.alloc (.cells (chC p h lf lcap) 93)).alloc (.cells #[.func (.func f) #[] cap] 117)) w.heap.size 93 (chC p h lf lcap) := (Lies.new _ _ _).alloc _
  have l1 : Lies ((w.alloc (.cells (chC p h lf lcap) 93)).alloc (.cells #[.func (.func f) #[] cap] 117)) (w.heap.size + 1) 117 #[.func (.func f) #[] cap] := Lies.new_of _ _ (by simp)
  obtain ⟨c0, c1, _⟩ := ch_cells l0
  have hl := load_f (j := h) (f := 92) (cap := #[ptr (w.heap.size + 1)]) (m := m) A hM hV ent_read1 (hw.made k2) hq (fun i hi => read1_g (hM i) hE (hw.box k2 hi (Nat.le_refl _) (by omega) l1 (by decide)) ((hT i (hw.low _ _ _ hi k2.size)).mv (hw.mv k2 hi (Nat.le_refl _)))) hs
  clear hT hs l0 l1
  unfold MakesF at *
  go_enter Try.func62, Try.ntmps62
  go_upto_region 1 with (fail)
  generalize ((w.alloc (.cells (chC p h lf lcap) 93)).alloc (.cells #[.func (.func f) #[] cap] 117)) = w2 at *
  go_wp2_with fail
  refine hl.mono ?_
  rintro e w3 ⟨v, rfl, hc, t3⟩
  go_wp2
  go_ret
  exact ⟨v, rfl, hc, k2.trans t3⟩

variable {qN : Int → Pr} {qT : Int → Int → Pr} {T : ι → Int → Bool → St → Pr × St} {V U Y : ι → Int → Prop} {D : ι → Int → Bool → St → Prop}
theorem pop_f (A : ∀ i, (M i).Ar p c) (hM : ∀ i, (M i).Ok) (hC : ∀ i, Gm.ChOk (A i) h lk (V i) (U i) (Y i)) (hQ : ∀ i, Gm.PopQ (A i) h lk qR qN qT (D i) (T i)) (hE : Ent f) (hw : Fam M E w) (hL : ∀ i, (M i).Lk w lf lcap lk) (hT : ∀ i, E i w.heap.size → (M i).Cont m f cap w (fun x s => PopD (V i) x ∧ D i x.1 x.2 s) (fun x => #[.int .i64 x.1, .bool x.2]) (fun x => T i x.1 x.2)) :
    MakesF M E m qR 39 #[chV p h lf lcap, .func (.func f) #[] cap] w := by
  have hmf := hmf_run
  have y2 := fun (a : Addr) (f : FuncId) (c : Array Value) (w : World) => run_store Try.prog w a (.func (.func f) #[] c) .plain rfl
  obtain ⟨W2, hW2⟩ : ∃ W2, (((w.alloc (.cells (chC p h lf lcap) 27)).alloc (.cells #[.func (.func f) #[] cap] 91)).alloc (.cells (chC p h lf lcap) 93)) = W2 := ⟨_, rfl⟩
  have k2 : Turns [] w W2 := by rw [← hW2]; exact (((Turns.refl _ _).alloc _).alloc _).alloc _
  have l0 : Lies W2 w.heap.size 27 (chC p h lf lcap) := by rw [← hW2]; exact ((Lies.new _ _ _).alloc _).alloc _
  have l1 : Lies W2 (w.heap.size + 1) 91 #[.func (.func f) #[] cap] := by rw [← hW2]; exact (Lies.new_of _ _ (by simp)).alloc _
  have l2 : Lies W2 (w.heap.size + 1 + 1) 93 (chC p h lf lcap) := by rw [← hW2]; exact Lies.new_of _ _ (by simp)
  have hR := read_f (m := m) (h := h) (lf := lf) (lcap := lcap) (E := E) A hM (V := fun i x s => V i x ∧ (hIx x = -1 → D i (-1) false s)) (fun i s hok hw => ⟨(hC i).hd _ hok, (hQ i).wR s hok hw⟩) ent_pop1 (hw.made k2) (fun i => (hQ i).eR) (fun i hi => pop1_g (A i) (hM i) (hC i) (hQ i) hE ((hL i).mv (hw.mv k2 hi (Nat.le_refl _))) (hw.box k2 hi (Nat.le_refl _) (by omega) l1 (by decide)) (hw.box k2 hi (Nat.le_refl _) (by omega) l2 (by decide)) (hw.box k2 hi (Nat.le_refl _) (by omega) l0 (by decide)) ((hT i (hw.low _ _ _ hi k2.size)).mv (hw.mv k2 hi (Nat.le_refl _)))
    (fun n hn w' h1 h2 => pop_g (A i) (hM i) (hC i) (hQ i) n f cap w' hE h2 (((hL i).mv (hw.mv k2 hi (Nat.le_refl _))).mv h1) ((((hT i (hw.low _ _ _ hi k2.size)).mv (hw.mv k2 hi (Nat.le_refl _))).mv h1).less (by omega)))) (fun i s => by rw [(hQ i).sR])
  obtain ⟨c0, c1, c2⟩ := ch_cells l2
  clear hT hL l0 l1 l2 hw hE
  unfold MakesF at *
  go_enter Try.func39, Try.ntmps39
  go_wp2_with fail
  clear hW2
  refine hR.mono ?_
  rintro e w4 ⟨v, rfl, hc4, t4⟩
  go_wp2
  go_ret
  exact ⟨v, rfl, hc4, k2.trans t4⟩

variable {i : Int} {qS qU : Int → Pr} {T2 : ι → St → Pr × St} {D2 : ι → St → Prop} {M0 : Gm St Pr}
theorem push_f (A : ∀ i, (M i).Ar p c) (hM : ∀ i, (M i).Ok) (hC : ∀ i, Gm.ChOk (A i) h lk (V i) (U i) (Y i)) (hY : ∀ j, Y j i) (hix : Ix i) (hQ : ∀ j, Gm.PushQ (A j) h lk i qR qS qU (D2 j) (T2 j)) (hE : Ent f) (hw : Fam M E w) (hL : ∀ i, (M i).Lk w lf lcap lk) (hM0 : M0.Ok) (hw0 : M0.OkW w) (hL0 : M0.Lk w lf lcap lk) (hRm : Room w p c h (lk i)) (hT : ∀ j, E j w.heap.size → (M j).Cont m f cap w (fun (_ : Unit) s => D2 j s) (fun _ => #[]) (fun _ => T2 j)) :
    MakesF M E m qR 41 #[chV p h lf lcap, .int .i64 i, .func (.func f) #[] cap] w := by
  have hmf := hmf_run
  have y2 := fun (a : Addr) (f : FuncId) (c : Array Value) (w : World) => run_store Try.prog w a (.func (.func f) #[] c) .plain rfl
  obtain ⟨W2, hW2⟩ : ∃ W2, ((((w.alloc (.cells (chC p h lf lcap) 27)).alloc (.cells #[.int .i64 i] 3)).alloc (.cells #[.func (.func f) #[] cap] 37)).alloc (.cells (chC p h lf lcap) 93)) = W2 := ⟨_, rfl⟩
  have k2 : Turns [] w W2 := by rw [← hW2]; exact ((((Turns.refl _ _).alloc _).alloc _).alloc _).alloc _
  have l0 : Lies W2 w.heap.size 27 (chC p h lf lcap) := by rw [← hW2]; exact (((Lies.new _ _ _).alloc _).alloc _).alloc _
  have l1 : Lies W2 (w.heap.size + 1) 3 #[.int .i64 i] := by rw [← hW2]; exact ((Lies.new_of _ _ (by simp)).alloc _).alloc _
  have l2 : Lies W2 (w.heap.size + 1 + 1) 37 #[.func (.func f) #[] cap] := by rw [← hW2]; exact (Lies.new_of _ _ (by simp)).alloc _
  have l3 : Lies W2 (w.heap.size + 1 + 1 + 1) 93 (chC p h lf lcap) := by rw [← hW2]; exact Lies.new_of _ _ (by simp)
  have hR : ∀ W, Turns [] W2 W → MakesF M E m qR 62 #[chV p h lf lcap, .func (.func 67) #[] #[ptr (w.heap.size + 1 + 1 + 1), ptr (w.heap.size + 1), ptr w.heap.size, ptr (w.heap.size + 1 + 1)]] W := fun W hW => by
    have kk := k2.trans hW
    have x0 := fun j (hj : E j W.heap.size) => hw.box kk hj (Nat.le_refl _) (by omega) (l0.turn hW (by simp)) (by decide)
    have x1 := fun j (hj : E j W.heap.size) => hw.box kk hj (Nat.le_refl _) (by omega) (l1.turn hW (by simp)) (by decide)
    have x2 := fun j (hj : E j W.heap.size) => hw.box kk hj (Nat.le_refl _) (by omega) (l2.turn hW (by simp)) (by decide)
    have x3 := fun j (hj : E j W.heap.size) => hw.box kk hj (Nat.le_refl _) (by omega) (l3.turn hW (by simp)) (by decide)
    exact read_f (V := fun j x _ => V j x) A hM (fun j s hok _ => (hC j).hd _ hok) ent_push1 (hw.made kk) (fun j => (hQ j).eR) (fun j hj => push1_g (A j) (hM j) (hC j) (hY j) (hQ j) hE ((hL j).mv (hw.mv kk hj (Nat.le_refl _))) (x3 j hj) (x1 j hj) (x0 j hj) (x2 j hj) ((hT j (hw.low _ _ _ hj kk.size)).mv (hw.mv kk hj (Nat.le_refl _)))
      (fun n hn w' h1 h2 h4 => push_g (A j) (hM j) (hC j) (hY j) (hQ j) n f cap w' hE h2 (((hL j).mv (hw.mv kk hj (Nat.le_refl _))).mv h1) h4 ((((hT j (hw.low _ _ _ hj kk.size)).mv (hw.mv kk hj (Nat.le_refl _))).mv h1).less (by omega)))) (fun j => (hQ j).sR)
  obtain ⟨l, k, ha, g1, g2⟩ := hRm
  have hw2 := hw0.made hM0 k2
  have cH := canhave_g hM0 hw2 (hL0.mv (hw0.mv hM0 k2)) (ha.turn k2 (by simp) (by simp)) hix g1 g2
  have d0 : W2.cell? ⟨w.heap.size + 1, 0, none⟩ = some (.int .i64 i) := l1.cell 0
  have gl1 := l1.lt
  have gl3 := l3.lt
  obtain ⟨c0, c1, c2⟩ := ch_cells l3
  clear hT hL l0 l1 l2 l3 hw hE hw2 ha hw0 hL0
  unfold MakesF at *
  go_enter Try.func41, Try.ntmps41
  go_wp2_with fail
  clear hW2
  refine cH.mono ?_
  rintro e w3 ⟨rfl, t3⟩
  have d1 := (t3.cell (p := ⟨w.heap.size + 1, 0, none⟩) gl1 (by simp)).trans d0
  have u0 := (t3.cell (p := ⟨w.heap.size + 1 + 1 + 1, 0, none⟩) gl3 (by simp)).trans c0
  have u1 := (t3.cell (p := ⟨w.heap.size + 1 + 1 + 1, 1, none⟩) gl3 (by simp)).trans c1
  have u2 := (t3.cell (p := ⟨w.heap.size + 1 + 1 + 1, 2, none⟩) gl3 (by simp)).trans c2
  have hR := hR _ t3
  go_wp2_with fail
  refine hR.mono ?_
  rintro e w4 ⟨v, rfl, hc4, t4⟩
  go_wp2
  go_ret
  exact ⟨v, rfl, hc4, (k2.trans t3).trans t4⟩
end

end Go.Proofs.Ythjbmaeoogophaa

/- Layer 8's code of acts, made where later workers aren't there yet. -/
namespace Go.Proofs.Ythjbmaeoogophaa
open Go.RowKit
set_option maxRecDepth 100000

/-- with more workers. -/
structure More where
  nw : Nat
  wb : Nat → Nat
  gp : Nat → Option Nat
def SP.up (P : SP) (x : More) : SP := { P with nw := P.nw + x.nw, wb := fun i => if i < P.nw then P.wb i else x.wb (i - P.nw), gp := fun i => if i < P.nw then P.gp i else x.gp (i - P.nw) }
/-- they lie from n on. -/
def More.From (x : More) (n : Nat) : Prop := ∀ i, i < x.nw → n ≤ x.wb i ∧ ∀ g, x.gp i = some g → n ≤ g
abbrev Ups (P : SP) := { x : More // (P.up x).Good }
section
variable {P : SP} {x : More} {n : Nat}
theorem SP.up_wb {j : Nat} (hj : j < P.nw) : (P.up x).wb j = P.wb j := if_pos hj
theorem SP.up_gp {j : Nat} (hj : j < P.nw) : (P.up x).gp j = P.gp j := if_pos hj
theorem SP.up_has {j : Nat} (hj : j < P.nw) : (P.up x).has j = P.has j := by unfold SP.has; rw [SP.up_gp hj]
theorem SP.up_nw {j : Nat} (hj : j < P.nw) : j < (P.up x).nw := Nat.lt_of_lt_of_le hj (Nat.le_add_right _ _)
theorem SP.up_L {b : Nat} (h : b ∈ (P.up x).L) (hx : x.From n) : b ∈ P.L ∨ n ≤ b := by
  rcases SP.L_mem.1 h with h | h | ⟨j, hj, h⟩ | ⟨j, hj, h⟩
  · exact .inl (SP.L_mem.2 (.inl h))
  · exact .inl (SP.L_mem.2 (.inr (.inl h)))
  · by_cases hl : j < P.nw
    · rw [SP.up_wb hl] at h
      exact .inl (SP.L_mem.2 (.inr (.inr (.inl ⟨j, hl, h⟩))))
    · have e : (P.up x).wb j = x.wb (j - P.nw) := if_neg hl
      have hj : j < P.nw + x.nw := hj
      rw [e] at h
      have := (hx (j - P.nw) (by omega)).1
      right; omega
  · by_cases hl : j < P.nw
    · rw [SP.up_gp hl] at h
      exact .inl (SP.L_mem.2 (.inr (.inr (.inr ⟨j, hl, h⟩))))
    · have e : (P.up x).gp j = x.gp (j - P.nw) := if_neg hl
      have hj : j < P.nw + x.nw := hj
      rw [e] at h
      exact .inr ((hx (j - P.nw) (by omega)).2 _ h)
theorem SP.up_ws {a : Addr} (h : a ∈ (P.up x).ws) (hx : x.From n) : a ∈ P.ws ∨ n ≤ a.block := by
  rcases SP.ws_mem.1 h with ⟨j, hj, rfl⟩ | ⟨j, g, hj, hg, rfl⟩
  · by_cases hl : j < P.nw
    · rw [SP.up_wb hl]
      exact .inl (SP.ws_mem.2 (.inl ⟨j, hl, rfl⟩))
    · have e : (P.up x).wb j = x.wb (j - P.nw) := if_neg hl
      have hj : j < P.nw + x.nw := hj
      rw [e]
      exact .inr (hx (j - P.nw) (by omega)).1
  · by_cases hl : j < P.nw
    · rw [SP.up_gp hl] at hg
      exact .inl (SP.ws_mem.2 (.inr ⟨j, g, hl, hg, rfl⟩))
    · have e : (P.up x).gp j = x.gp (j - P.nw) := if_neg hl
      have hj : j < P.nw + x.nw := hj
      rw [e] at hg
      exact .inr ((hx (j - P.nw) (by omega)).2 _ hg)
theorem SP.up_rw {w : World} {b : Nat} (hx : x.From n) (hn : w.heap.size ≤ n) (q : Rw (P.up x).ws w b) : Rw P.ws w b := by
  obtain ⟨a, ha, o, m, c, e⟩ := q
  rcases SP.up_ws ha hx with h | h
  · exact ⟨a, h, o, m, c, e⟩
  · have := cell_block e
    omega
theorem Ups.fam {w : World} (hw : (SM P).OkW w) : Fam (fun y : Ups P => SM (P.up y.1)) (fun y n => y.1.From n) w where
  lt y n b hy hb := by
    rcases List.mem_append.1 hb with h | h
    · exact (SP.up_L h hy).imp (hw.lt b) id
    · exact .inl (hw.ltX b h)
  row y n b hy hn q := (hw.row b (SP.up_rw hy hn q)).2
  cells y a ha := (sm_ok _ y.2).cells a ha
  low y n n' h hn := fun i hi => ⟨Nat.le_trans hn (h i hi).1, fun g hg => Nat.le_trans hn ((h i hi).2 g hg)⟩
theorem Gm.Bx.up {w : World} {b : Nat} {t : TypeId} {cs : Array Value} (h : (SM P).Bx w b t cs) (hx : x.From n) (hn : w.heap.size ≤ n) : (SM (P.up x)).Bx w b t cs := by
  have hlt := h.l.lt
  exact ⟨h.l, fun hm => by
    rcases SP.up_L hm hx with h1 | h1
    · exact h.out h1
    · omega, fun q => h.row (SP.up_rw hx hn q), h.ty, h.outX⟩
theorem BL.up {w : World} {A : Option Addr} {bs : List Bool} (h : BL P w A bs) (hx : x.From n) (hn : w.heap.size ≤ n) : BL (P.up x) w A bs :=
  ⟨h.most, fun hp => by
    obtain ⟨a, e, h1, h2, h3, h4, h5⟩ := h.at_ hp
    refine ⟨a, e, h1, fun hm => ?_, fun q => h3 (SP.up_rw hx hn q), h4, h5⟩
    rcases List.mem_append.1 hm with hm | hm
    · rcases SP.up_L hm hx with h6 | h6
      · exact h2 (List.mem_append.2 (.inl h6))
      · omega
    · exact h2 (List.mem_append.2 (.inr hm))⟩
end

/-- code() of so many acts tells code that does them, whoever comes later. -/
def CodeW (P : SP) (n : Nat) (l : List Bool) : Prop := ∀ (j : Nat) (A : Option Addr) (cp : Nat) (w : World) (r : Nat) (s : SSt), j < P.nw → BL P w A l → l.length ≤ cp → SI P r s w →
  (SM P).Then 15 #[stV P, .slice A l.length cp, ptr (P.wb j)] w fun v w' => SI P r (startS j l s).2 w' ∧ ∀ x : More, (P.up x).Good → x.From w'.heap.size → (SM (P.up x)).Code n (startS j l s).1 v w'

section
variable {P : SP}
set_option maxHeartbeats 1000000 in
theorem code_w (hG : P.Good) (m : Nat) : ∀ (l : List Bool), CodeW P m l := by
    intro l
    induction l with
    | nil =>
      intro j A cp w r s hj hB hcp hi
      have hM := sm_ok P hG
      have hw := hM.okw _ _ _ hi
      obtain ⟨W2, hW2⟩ : ∃ W2, (((w.alloc (.cells (stC P) 27)).alloc (.cells #[.slice A 0 cp] 22)).alloc (.cells #[ptr (P.wb j)] 30)) = W2 := ⟨_, rfl⟩
      have k2 : Turns [] w W2 := by rw [← hW2]; exact (((Turns.refl _ _).alloc _).alloc _).alloc _
      have l1 : Lies W2 (w.heap.size + 1) 22 #[.slice A 0 cp] := by rw [← hW2]; exact (Lies.new_of _ _ (by simp)).alloc _
      have d0 : W2.cell? ⟨w.heap.size + 1, 0, none⟩ = some (.slice A 0 cp) := l1.cell 0
      have hi2 := SI.tasks (Mv.of_turns k2 (by simp) (fun x hx => by cases hx)) hi
      have f2 := hw.fr hM k2
      show (SM P).Then _ #[stV P, .slice A 0 cp, ptr (P.wb j)] w (fun v w' => SI P r s w' ∧ ∀ x : More, (P.up x).Good → x.From w'.heap.size → (SM (P.up x)).Code m ⟨j, .done, []⟩ v w')
      unfold Gm.Then
      go_enter Try.func15, Try.ntmps15
      go_wp2_with fail
      go_ret
      exact ⟨_, rfl, ⟨hi2, fun x _ _ => by cases m <;> exact .inl ⟨rfl, rfl⟩⟩, f2⟩
    | cons b l ihl =>
      intro j A cp w r s hj hB hcp hi
      have hM := sm_ok P hG
      have hw := hM.okw _ _ _ hi
      have hcp : l.length + 1 ≤ cp := hcp
      obtain ⟨W2, hW2⟩ : ∃ W2, (((w.alloc (.cells (stC P) 27)).alloc (.cells #[.slice A (l.length + 1) cp] 22)).alloc (.cells #[ptr (P.wb j)] 30)) = W2 := ⟨_, rfl⟩
      have k2 : Turns [] w W2 := by rw [← hW2]; exact (((Turns.refl _ _).alloc _).alloc _).alloc _
      have l0 : Lies W2 w.heap.size 27 (stC P) := by rw [← hW2]; exact ((Lies.new _ _ _).alloc _).alloc _
      have l1 : Lies W2 (w.heap.size + 1) 22 #[.slice A (l.length + 1) cp] := by rw [← hW2]; exact (Lies.new_of _ _ (by simp)).alloc _
      have l2 : Lies W2 (w.heap.size + 1 + 1) 30 #[ptr (P.wb j)] := by rw [← hW2]; exact Lies.new_of _ _ (by simp)
      have y1 := hw.box hM k2 (by omega) l0 (by decide)
      have y2 := hw.box hM k2 (by omega) l1 (by decide)
      have y0 := hw.box hM k2 (by omega) l2 (by decide)
      have hi2 := SI.tasks (Mv.of_turns k2 (by simp) (fun x hx => by cases hx)) hi
      have f2 := hw.fr hM k2
      have hB2 := hB.mv f2.mv
      obtain ⟨a, ha, hc⟩ := hB2.head
      subst ha
      have d0 : W2.cell? ⟨w.heap.size + 1, 0, none⟩ = some (.slice (some a) (l.length + 1) cp) := l1.cell 0
      have e0 := y0.cell
      obtain ⟨c0, c1, c2⟩ : W2.cell? ⟨w.heap.size, 0, none⟩ = some (ptr P.p) ∧ W2.cell? ⟨w.heap.size, 1, none⟩ = some (.int .i64 0) ∧ W2.cell? ⟨w.heap.size, 2, none⟩ = some (.func (.func 38) #[] #[]) := ⟨l0.cell 0, l0.cell 1, l0.cell 2⟩
      have hl1 : ¬ ((l.length : Int) + 1 = 0) := by omega
      obtain ⟨v, hwk, hown⟩ := hi2.wk j hj
      generalize hbs : w.heap.size = bs at *
      cases b with
      | true =>
        have f23 : W2.frozen? ⟨P.wb j, 2, none⟩ = false := hwk.frozen 2
        have f33 : W2.frozen? ⟨P.wb j, 3, none⟩ = false := hwk.frozen 3
        have q2 : W2.cell? ⟨P.wb j, 2, none⟩ = some (.bool (s.bu j)) := hwk.cell 2
        have q3 : W2.cell? ⟨P.wb j, 3, none⟩ = some (.bool (s.ba j)) := hwk.cell 3
        show (SM P).Then _ #[stV P, .slice (some a) (l.length + 1) cp, ptr (P.wb j)] w (fun v w' => SI P r { s with bu := updF s.bu j true, ba := updF s.ba j false } w' ∧ ∀ x : More, (P.up x).Good → x.From w'.heap.size → (SM (P.up x)).Code m ⟨j, .popR, l⟩ v w')
        have hbl := hB2.most
        simp only [List.length_cons] at hbl
        clear ihl hwk hown l0 l1 l2
        unfold Gm.Then
        go_enter Try.func15, Try.ntmps15
        go_upto_region 4 with (fail)
        clear hW2
        go_cut [14] (fun _ wc => SI P r { s with bu := updF s.bu j true, ba := updF s.ba j false } wc ∧ Fr P.L P.ws W2 wc)
        case first =>
          have tud : Turns [] W2 W2.drew := (Turns.refl [] _).drew
          have hi1 := SI.tasks (Mv.of_turns tud (by simp) (fun x hx => by cases hx)) hi2
          have m2 := hi1.mark hG j hj 2 (.inl rfl) true
          have n2 := hi1.mark_fr hG j hj 2 (.inl rfl) true
          have m3 := hi1.mark hG j hj 3 (.inr (.inl rfl)) false
          have n3 := hi1.mark_fr hG j hj 3 (.inr (.inl rfl)) false
          have m23 := m2.mark hG j hj 3 (.inr (.inl rfl)) false
          have n23 := m2.mark_fr hG j hj 3 (.inr (.inl rfl)) false
          have m32 := m3.mark hG j hj 2 (.inl rfl) true
          have n32 := m3.mark_fr hG j hj 2 (.inl rfl) true
          have fd := (hM.okw _ _ _ hi2).fr hM tud
          clear y0 y1 y2 hi hi2 hB hB2 f2
          go_region
          all_goals
            go_wp2_with fail
            go_meet
            case rel => first | exact ⟨m23, (fd.trans n2).trans n23⟩ | exact ⟨m32, (fd.trans n3).trans n32⟩
        case rest =>
          obtain ⟨hi4, f4⟩ := hcut
          have mv4 : Mv P.B (P.L ++ P.ex) P.ws W2 wc := f4.mv
          have y0 := y0.mv mv4
          have y1 := y1.mv mv4
          have y2 := y2.mv mv4
          have hB4 := hB2.mv mv4
          have hp := pop_f (M := fun y : Ups P => SM (P.up y.1)) (E := fun y n => y.1.From n) (p := P.p) (c := P.c) (m := m) (f := 40) (cap := #[ptr (bs + 1 + 1), ptr bs, ptr (bs + 1)]) (w := wc) (fun y => smAr (P.up y.1) y.2) (fun y => sm_ok _ y.2) (fun y => sm_ch (P.up y.1) y.2) (fun y => sm_pop (P.up y.1) y.2 j l) ent_code1 (Ups.fam (hM.okw _ _ _ hi4)) (fun y => sm_lk (P.up y.1) wc) (fun y hy => code1_g y.2 (SP.up_nw hj) (by rw [SP.up_wb hj]; exact y0.up hy (Nat.le_refl _)) (y1.up hy (Nat.le_refl _)) (y2.up hy (Nat.le_refl _)) (hB4.up hy (Nat.le_refl _)) hcp (fun n _ => code_g y.2 n l))
          obtain ⟨c0, c1, c2⟩ : wc.cell? ⟨bs, 0, none⟩ = some (ptr P.p) ∧ wc.cell? ⟨bs, 1, none⟩ = some (.int .i64 0) ∧ wc.cell? ⟨bs, 2, none⟩ = some (.func (.func 38) #[] #[]) := ⟨y1.l.cell 0, y1.l.cell 1, y1.l.cell 2⟩
          have fin : ∀ W v, Turns [] wc W → (∀ y : Ups P, y.1.From W.heap.size → (SM (P.up y.1)).Code m ⟨j, .popR, l⟩ v W) → (SI P r { s with bu := updF s.bu j true, ba := updF s.ba j false } W ∧ ∀ x : More, (P.up x).Good → x.From W.heap.size → (SM (P.up x)).Code m ⟨j, .popR, l⟩ v W) ∧ Fr P.L P.ws w W := fun W v tu hc =>
            ⟨⟨hM.made tu hi4, fun x h1 h2 => hc ⟨x, h1⟩ h2⟩, (f2.trans f4).trans ((hM.okw _ _ _ hi4).fr hM tu)⟩
          clear y0 y1 y2 hB4 hB2 mv4 hi hi2 hi4 f4 f2
          unfold MakesF at hp
          go_wp2_with fail
          refine hp.mono ?_
          rintro e w5 ⟨v, rfl, hc5, t5⟩
          go_wp2
          go_ret
          exact ⟨v, rfl, fin _ _ t5 hc5⟩
      | false =>
        by_cases hne : s.hs j = []
        · have hst : startS j (false :: l) s = startS j l s := by
            show (match (s.hs j).getLast? with | none => startS j l s | some i => (⟨j, .pushR i, l⟩, s)) = _
            rw [hne]
            rfl
          obtain ⟨A0, cv, rfl, _⟩ := own_slice hown
          have h0 : (s.hs j).length = 0 := by rw [hne]; rfl
          rw [h0] at hwk
          have q0 : W2.cell? ⟨P.wb j, 0, none⟩ = some (.slice A0 0 cv) := hwk.cell 0
          have hsl := slice_tail1 (t := 22) (e := 4) Try.underlying22 (by kernel_rfl) (some a) (l.length + 1) cp (by omega)
          rw [Nat.add_sub_cancel] at hsl
          have e2 := d0
          have tu3 : Turns [] W2 W2.drew := (Turns.refl [] _).drew
          have okw3 := hM.okw _ _ _ hi2
          have hI4 := SI.tasks (Mv.of_turns tu3 (by simp) (fun x hx => by cases hx)) hi2
          have ht := ihl j (tailO (some a) cp) (cp - 1) _ r s hj ((hB2.tail (cp := cp) hcp).mv (okw3.mv hM tu3)) (by omega) hI4
          have hF4 := f2.trans (okw3.fr hM tu3)
          have oo := (fun (b : Nat) (t : TypeId) (cs : Array Value) (y : (SM P).Bx W2 b t cs) (W : World) (f : Fr P.L P.ws W2.drew W) => (f.lies (y.l.drew) y.out y.row))
          rw [hst]
          have hbl := hB2.most
          simp only [List.length_cons] at hbl
          generalize startS j l s = R at *
          clear ihl hst hi hi2 hB2 hB hI4 hwk hown hne h0 f2 okw3
          unfold Gm.Then at *
          show Calls _ _ #[stV P, .slice (some a) (l.length + 1) cp, ptr (P.wb j)] _ _
          go_enter Try.func15, Try.ntmps15
          go_upto_region 7 with (fail)
          clear hW2 hbs
          go_region_held3 (fun W' => W'.cell? ⟨bs, 0, none⟩ = some (ptr P.p) ∧ W'.cell? ⟨bs, 1, none⟩ = some (.int .i64 0) ∧ W'.cell? ⟨bs, 2, none⟩ = some (.func (.func 38) #[] #[]) ∧ W'.cell? ⟨bs + 1, 0, none⟩ = some (.slice (some a) (l.length + 1) cp) ∧ W'.cell? ⟨bs + 1 + 1, 0, none⟩ = some (ptr (P.wb j)))
            (first | exact ⟨c0, c1, c2, e2, e0⟩ | exact ⟨u0, u1, u2, u3, u4⟩)
            (first
              | (go_at_call 15
                 refine ht.mono ?_
                 rintro e w5 ⟨v, rfl, hq5, t5⟩
                 have o1 := oo _ _ _ y1 _ t5
                 have u0 : w5.cell? ⟨bs, 0, none⟩ = some (ptr P.p) := o1.cell 0
                 have u1 : w5.cell? ⟨bs, 1, none⟩ = some (.int .i64 0) := o1.cell 1
                 have u2 : w5.cell? ⟨bs, 2, none⟩ = some (.func (.func 38) #[] #[]) := o1.cell 2
                 have u3 : w5.cell? ⟨bs + 1, 0, none⟩ = some (.slice (some a) (l.length + 1) cp) := (oo _ _ _ y2 _ t5).cell 0
                 have u4 : w5.cell? ⟨bs + 1 + 1, 0, none⟩ = some (ptr (P.wb j)) := (oo _ _ _ y0 _ t5).cell 0))
          go_wp2
          go_ret
          exact ⟨v, rfl, hq5, hF4.trans t5⟩
        · obtain ⟨q, hq⟩ : ∃ q, (s.hs j).length = q + 1 := ⟨(s.hs j).length - 1, by have := List.length_pos_iff.2 hne; omega⟩
          obtain ⟨x, hx⟩ : ∃ x, (s.hs j)[q]? = some x := ⟨_, List.getElem?_eq_getElem (by omega)⟩
          have hlast : (s.hs j).getLast? = some x := by rw [List.getLast?_eq_getElem?, hq]; exact hx
          have hxb := hi2.hb j hj x (List.mem_of_getElem? hx)
          have hst : startS j (false :: l) s = (⟨j, .pushR x, l⟩, s) := by
            show (match (s.hs j).getLast? with | none => startS j l s | some i => (⟨j, .pushR i, l⟩, s)) = _
            rw [hlast]
          obtain ⟨g, c, rfl, hBg, hglt⟩ := hown.form (by omega)
          rw [hq] at hwk
          have q0 : W2.cell? ⟨P.wb j, 0, none⟩ = some (.slice (some ⟨g, 0, none⟩) (q + 1) c) := hwk.cell 0
          have q1 : W2.cell? ⟨g, q, none⟩ = some (.int .i64 x) := by
            rcases hown.2 with ⟨h0, _⟩ | ⟨g', cap, cur, hv, _, hg, hnc, hcs⟩
            · cases h0
            · injection hv with hv _ _
              injection hv with hv
              injection hv with hv _ _
              subst hv
              rw [cell_of_row W2 g q cur 3 (0, 0) hg]
              have h1 : (intVs (s.hs j))[q]? = some (.int .i64 x) := by unfold intVs; rw [List.getElem?_map, hx]; rfl
              rw [← hcs.2.2, List.getElem?_take, if_pos (by omega)] at h1
              simpa using h1
          have hmx : q < 100000 := by have := (hi2.size j hj).1; omega
          have hwq : IntKind.i64.wrap (q : Int) = q := by rw [IntKind.wrap_i64]; omega
          have hwq1 : IntKind.i64.wrap ((q : Int) + 1 - 1) = q := by rw [IntKind.wrap_i64]; omega
          have hq0 : ¬ ((q : Int) + 1 = 0) := by omega
          have few := hG.few
          have tu3 : Turns [] W2 W2.drew := (Turns.refl [] _).drew
          have okw3 := hM.okw _ _ _ hi2
          have hi4 := SI.tasks (Mv.of_turns tu3 (by simp) (fun x hx => by cases hx)) hi2
          have mv4 := okw3.mv hM tu3
          have z0 := y0.mv mv4
          have z1 := y1.mv mv4
          have z2 := y2.mv mv4
          have hp := push_f (M := fun y : Ups P => SM (P.up y.1)) (E := fun y n => y.1.From n) (p := P.p) (c := P.c) (m := m) (f := 42) (cap := #[ptr (bs + 1 + 1), ptr bs, ptr (bs + 1)]) (w := W2.drew) (i := x) (fun y => smAr (P.up y.1) y.2) (fun y => sm_ok _ y.2) (fun y => sm_ch (P.up y.1) y.2) (fun _ => ⟨hxb.1, hxb.2⟩) ((sm_ch P hG).ix x ⟨hxb.1, hxb.2⟩) (fun y => sm_push (P.up y.1) y.2 j x l) ent_code2 (Ups.fam (hM.okw _ _ _ hi4)) (fun y => sm_lk (P.up y.1) _) hM (hM.okw _ _ _ hi4) (sm_lk P _) ((sm_ch P hG).begin ⟨hxb.1, hxb.2⟩ hi4) (fun y hy => code2_g y.2 (SP.up_nw hj) (by rw [SP.up_wb hj]; exact z0.up hy (Nat.le_refl _)) (z1.up hy (Nat.le_refl _)) (z2.up hy (Nat.le_refl _)) ((hB2.mv mv4).up hy (Nat.le_refl _)) hcp (fun n _ => code_g y.2 n l))
          have fin : ∀ W v, Turns [] W2.drew W → (∀ y : Ups P, y.1.From W.heap.size → (SM (P.up y.1)).Code m ⟨j, .pushR x, l⟩ v W) → (SI P r s W ∧ ∀ x' : More, (P.up x').Good → x'.From W.heap.size → (SM (P.up x')).Code m ⟨j, .pushR x, l⟩ v W) ∧ Fr P.L P.ws w W := fun W v tu hc =>
            ⟨⟨hM.made tu hi4, fun x' h1 h2 => hc ⟨x', h1⟩ h2⟩, (f2.trans (okw3.fr hM tu3)).trans ((hM.okw _ _ _ hi4).fr hM tu)⟩
          rw [hst]
          have hbl := hB2.most
          simp only [List.length_cons] at hbl
          clear ihl hst hi hi2 hB2 hB hi4 hwk hown hne f2 okw3 z0 z1 z2 y0 y1 y2 mv4 hlast hx hq
          unfold Gm.Then MakesF at *
          show Calls _ _ #[stV P, .slice (some a) (l.length + 1) cp, ptr (P.wb j)] _ _
          go_enter Try.func15, Try.ntmps15
          go_upto_region 8 with (fail)
          clear hW2 hbs
          go_region
          go_wp2_with fail
          refine hp.mono ?_
          rintro e w5 ⟨v, rfl, hc5, t5⟩
          go_wp2
          go_ret
          exact ⟨v, rfl, fin _ _ t5 hc5⟩
end

end Go.Proofs.Ythjbmaeoogophaa

/- Slices of bools that are handed in. -/
namespace Go.Proofs.Ythjbmaeoogophaa
open Go.RowKit Go.ChangeShapes Go.WideShapes

/-- bools that are handed in, as they lie in the world. -/
structure BRow (w : World) (A : Option Addr) (bs : List Bool) : Prop where
  at_ : 0 < bs.length → ∃ a, A = some a ∧ a.block < w.heap.size ∧ ∀ i, i < bs.length → w.cell? (a.add i) = some (.bool (bs.getD i false))
theorem BRow.keep {w w' : World} {A : Option Addr} {bs : List Bool} (h : BRow w A bs) (k : Below w.heap.size w w') : BRow w' A bs :=
  ⟨fun hn => by
    obtain ⟨a, e, hb, hc⟩ := h.at_ hn
    exact ⟨a, e, Nat.lt_of_lt_of_le hb k.size, fun i hi => (k.cell (by rw [add_block]; exact hb)).trans (hc i hi)⟩⟩


theorem BRow.opened {H : Type} {enc : TypeId × Value → H} {P : Program} {w : World} {base : Nat} {held : Bool} {t e : TypeId} {a : Option Addr} {n c : Nat} {d : DataW H} {p : List MemPlace} (ht : P.underlying t = some (.slice e)) (he : P.underlying e = some .bool) (hc : P.cellsOf e = 1)
    (h : DataW.Trod enc P w base (fun _ => true) held t (.slice a n c) d p) : ∃ bs, bs.length = n ∧ BRow w a bs := by
  obtain ⟨fuel, hf⟩ := h
  rcases Go.Deep.open_bools ht he hc hf with ⟨hcs, _⟩ | ⟨x, l, cp, B, hcs, _, hl, hm, _, hcell⟩
  · simp [Value.cells] at hcs
    obtain ⟨rfl, rfl, rfl⟩ := hcs
    exact ⟨[], rfl, ⟨fun h => by simp at h⟩⟩
  · simp [Value.cells] at hcs
    obtain ⟨rfl, rfl, rfl⟩ := hcs
    refine ⟨(List.range n).map B, by simp, ⟨fun hn => ?_⟩⟩
    have hn : 0 < n := by simpa using hn
    have h0 := cell_block (hcell 0 (by omega))
    rw [add_block] at h0
    refine ⟨x, rfl, h0, fun i hi => ?_⟩
    have hi : i < n := by simpa using hi
    rw [hcell i (by omega)]
    simp [List.getD, hi]

/-- rows of bools that are handed in. -/
structure BGrid (w : World) (A : Option Addr) (bss : List (List Bool)) : Prop where
  at_ : 0 < bss.length → ∃ a, A = some a ∧ a.block < w.heap.size ∧ ∀ i, i < bss.length → ∃ A' c, w.cell? (a.add i) = some (.slice A' (bss.getD i []).length c) ∧ (bss.getD i []).length ≤ c ∧ (bss.getD i []).length ≤ maxLen ∧ BRow w A' (bss.getD i [])
theorem BGrid.keep {w w' : World} {A : Option Addr} {bss : List (List Bool)} (h : BGrid w A bss) (k : Below w.heap.size w w') : BGrid w' A bss :=
  ⟨fun hn => by
    obtain ⟨a, e, hb, hc⟩ := h.at_ hn
    refine ⟨a, e, Nat.lt_of_lt_of_le hb k.size, fun i hi => ?_⟩
    obtain ⟨A', c, h1, h2, h3, h4⟩ := hc i hi
    exact ⟨A', c, (k.cell (by rw [add_block]; exact hb)).trans h1, h2, h3, h4.keep k⟩⟩
theorem BGrid.opened {H : Type} {enc : TypeId × Value → H} {P : Program} {w : World} {base : Nat} {held : Bool} {t e q : TypeId} {a : Option Addr} {n c : Nat} {d : DataW H} {p : List MemPlace} (ht : P.underlying t = some (.slice e)) (he : P.underlying e = some (.slice q)) (hq : P.underlying q = some .bool) (ce : P.cellsOf e = 1) (cq : P.cellsOf q = 1)
    (h : DataW.Trod enc P w base (fun _ => true) held t (.slice a n c) d p) : ∃ bss, bss.length = n ∧ BGrid w a bss := by
  obtain ⟨fuel, hf⟩ := h
  rcases Go.Deep.open_bool_rows ht he hq ce cq hf with ⟨hcs, _⟩ | ⟨x, l, cp, A, L, C, B, hcs, _, hl, hm, _, hr⟩
  · simp [Value.cells] at hcs
    obtain ⟨rfl, rfl, rfl⟩ := hcs
    exact ⟨[], rfl, ⟨fun h => by simp at h⟩⟩
  · simp [Value.cells] at hcs
    obtain ⟨rfl, rfl, rfl⟩ := hcs
    refine ⟨(List.range n).map fun r => (List.range (L r)).map (B r), by simp, ⟨fun hn => ?_⟩⟩
    have hn : 0 < n := by simpa using hn
    have h0 := cell_block (hr 0 (by omega)).1
    rw [add_block] at h0
    refine ⟨x, rfl, h0, fun i hi => ?_⟩
    have hi : i < n := by simpa using hi
    obtain ⟨h1, h2, h3, h4, h5⟩ := hr i (by omega)
    have e1 : (((List.range n).map fun r => (List.range (L r)).map (B r)).getD i []) = (List.range (L i)).map (B i) := by simp [List.getD, hi]
    rw [e1]
    refine ⟨A i, C i, by simpa using h1, by simpa using h2, by simp; omega, ⟨fun hp => ?_⟩⟩
    have hp : 0 < L i := by simpa using hp
    cases hA : A i with
    | none => have := h4 hA; omega
    | some a' =>
      obtain ⟨_, hc⟩ := h5 a' hA
      have h6 := cell_block (hc 0 (by omega))
      rw [add_block] at h6
      refine ⟨a', rfl, h6, fun k hk => ?_⟩
      have hk : k < L i := by simpa using hk
      rw [hc k (by omega)]
      simp [List.getD, hk]

end Go.Proofs.Ythjbmaeoogophaa

/- Layer 8: many workers, made one by one; their tasks. -/
namespace Go.Proofs.Ythjbmaeoogophaa
open Go.RowKit Go.ChangeShapes Go.WideShapes
set_option maxRecDepth 100000

section
variable {P : SP} {x y : More} {n : Nat}
theorem SP.up_up (P : SP) (y x : More) : (P.up y).up x = P.up ⟨y.nw + x.nw, fun i => if i < y.nw then y.wb i else x.wb (i - y.nw), fun i => if i < y.nw then y.gp i else x.gp (i - y.nw)⟩ := by
  have e : ∀ {α : Type} (f g h : Nat → α), (fun i => if i < P.nw + y.nw then (if i < P.nw then f i else g (i - P.nw)) else h (i - (P.nw + y.nw))) = fun i => if i < P.nw then f i else if i - P.nw < y.nw then g (i - P.nw) else h (i - P.nw - y.nw) := fun f g h => by
    funext i
    by_cases h1 : i < P.nw
    · rw [if_pos (by omega), if_pos h1, if_pos h1]
    · rw [if_neg h1, if_neg h1]
      by_cases h2 : i < P.nw + y.nw
      · rw [if_pos h2, if_pos (by omega)]
      · rw [if_neg h2, if_neg (by omega), Nat.sub_sub]
  show ({ P with nw := P.nw + y.nw + x.nw, wb := _, gp := _ } : SP) = { P with nw := P.nw + (y.nw + x.nw), wb := _, gp := _ }
  congr 1
  · omega
  · exact e P.wb y.wb x.wb
  · exact e P.gp y.gp x.gp
theorem SP.up_zero (P : SP) : P.up ⟨0, fun i => P.wb (P.nw + i), fun i => P.gp (P.nw + i)⟩ = P := by
  have e : ∀ {α : Type} (f : Nat → α), (fun i => if i < P.nw then f i else f (P.nw + (i - P.nw))) = f := fun f => by
    funext i
    by_cases h : i < P.nw
    · rw [if_pos h]
    · rw [if_neg h, show P.nw + (i - P.nw) = i by omega]
  show ({ P with nw := P.nw + 0, wb := _, gp := _ } : SP) = P
  conv => rhs; rw [show P = { P with nw := P.nw, wb := P.wb, gp := P.gp } from rfl]
  congr 1
  · exact e P.wb
  · exact e P.gp
theorem SP.L_up {b : Nat} (h : b ∈ P.L) : b ∈ (P.up x).L := by
  rcases SP.L_mem.1 h with h | h | ⟨j, hj, h⟩ | ⟨j, hj, h⟩
  · exact SP.L_mem.2 (.inl h)
  · exact SP.L_mem.2 (.inr (.inl h))
  · exact SP.L_mem.2 (.inr (.inr (.inl ⟨j, SP.up_nw hj, by rw [SP.up_wb hj]; exact h⟩)))
  · exact SP.L_mem.2 (.inr (.inr (.inr ⟨j, SP.up_nw hj, by rw [SP.up_gp hj]; exact h⟩)))
theorem SP.ws_up {a : Addr} (h : a ∈ P.ws) : a ∈ (P.up x).ws := by
  rcases SP.ws_mem.1 h with ⟨j, hj, rfl⟩ | ⟨j, g, hj, hg, rfl⟩
  · exact SP.ws_mem.2 (.inl ⟨j, SP.up_nw hj, by rw [SP.up_wb hj]⟩)
  · exact SP.ws_mem.2 (.inr ⟨j, g, SP.up_nw hj, by rw [SP.up_gp hj]; exact hg, rfl⟩)
theorem SP.rw_up {w : World} {b : Nat} (q : Rw P.ws w b) : Rw (P.up x).ws w b := by
  obtain ⟨a, ha, o, m, c, e⟩ := q
  exact ⟨a, SP.ws_up ha, o, m, c, e⟩
variable {W W' : World} {r B : Nat} {s : SSt} {K : List Nat}
theorem Mv.up_fr (f : Fr P.L P.ws W W') (hx : x.From W'.heap.size) : Mv B ((P.up x).L ++ (P.up x).ex) (P.up x).ws W W' :=
  ⟨f.os, f.tape, f.output, f.size, fun b hb hn hr => .inl (f.block b hb (fun h => hn (List.mem_append.2 (.inl (SP.L_up h)))) (fun q => hr (SP.rw_up q))), fun b hb q => SP.rw_up (f.rows b hb (SP.up_rw hx (Nat.le_refl _) q))⟩
theorem Mv.up_turns (hG : P.Good) (hi : SI P r s W) (t : Turns K W W') (hK : ∀ b, b ∈ K → IsTask P.B W b ∧ b ∉ P.L) (hx : x.From W'.heap.size) : Mv P.B ((P.up x).L ++ (P.up x).ex) (P.up x).ws W W' :=
  ⟨t.os, t.tape, t.output, t.size, fun b hb _ _ => by
    by_cases hm : b ∈ K
    · exact .inr (hK b hm).1
    · exact .inl (t.block b hb hm), fun b _ q => SP.rw_up (SI.rows_turns hG hi t (fun b hb => (hK b hb).2) (SP.up_rw hx (Nat.le_refl _) q))⟩

/-- one worker more. -/
def SP.one (P : SP) (b : Nat) : SP := P.up ⟨1, fun _ => b, fun _ => none⟩
theorem SP.one_nw {b : Nat} : (P.one b).nw = P.nw + 1 := rfl
theorem SP.one_old {b j : Nat} (hj : j < P.nw) : (P.one b).wb j = P.wb j := SP.up_wb hj
theorem SP.one_new {b : Nat} : (P.one b).wb P.nw = b := if_neg (Nat.lt_irrefl _)
theorem SP.one_gp {b : Nat} (h : ∀ j, j < P.nw → P.gp j = none) : ∀ j, j < (P.one b).nw → (P.one b).gp j = none := fun j _ => by
  by_cases hl : j < P.nw
  · exact (SP.up_gp hl).trans (h j hl)
  · exact if_neg hl
theorem SP.one_ws {b : Nat} {a : Addr} (h : a ∈ (P.one b).ws) : a ∈ P.ws ∨ a = ⟨b, 0, none⟩ := by
  rcases SP.ws_mem.1 h with ⟨j, hj, rfl⟩ | ⟨j, g, hj, hg, rfl⟩
  · by_cases hl : j < P.nw
    · rw [SP.one_old hl]
      exact .inl (SP.ws_mem.2 (.inl ⟨j, hl, rfl⟩))
    · have hj : j < P.nw + 1 := hj
      obtain rfl : j = P.nw := by omega
      rw [SP.one_new]
      exact .inr rfl
  · by_cases hl : j < P.nw
    · have e : (P.one b).gp j = P.gp j := SP.up_gp hl
      rw [e] at hg
      exact .inl (SP.ws_mem.2 (.inr ⟨j, g, hl, hg, rfl⟩))
    · have e : (P.one b).gp j = none := if_neg hl
      rw [e] at hg
      cases hg
theorem SP.Good.one {b : Nat} (h : P.Good) (hgp : ∀ j, j < P.nw → P.gp j = none) (h1 : P.B ≤ b) (h2 : b ≠ P.p) (h3 : b ≠ P.c) (h4 : ∀ j, j < P.nw → P.wb j ≠ b) : (P.one b).Good := by
  have hn : ∀ j, j < (P.one b).nw → j < P.nw ∨ j = P.nw := fun j hj => by have hj : j < P.nw + 1 := hj; omega
  have hg := SP.one_gp (b := b) hgp
  refine ⟨⟨h.low.1, h.low.2.1, fun j hj => ?_, fun j g hj e => (by rw [hg j hj] at e; cases e)⟩, fun i j hi hj e => ?_, fun i j g hi _ e => (by rw [hg i hi] at e; cases e), ⟨h.sep.1, fun j hj => ?_, fun j g hj e => (by rw [hg j hj] at e; cases e), fun i j g _ hj e => (by rw [hg j hj] at e; cases e)⟩, h.few⟩
  · rcases hn j hj with hl | rfl
    · rw [SP.one_old hl]; exact h.low.2.2.1 j hl
    · rw [SP.one_new]; exact h1
  · rcases hn i hi with hl | rfl <;> rcases hn j hj with hk | rfl
    · rw [SP.one_old hl, SP.one_old hk] at e; exact h.inj i j hl hk e
    · rw [SP.one_old hl, SP.one_new] at e; exact absurd e (h4 i hl)
    · rw [SP.one_old hk, SP.one_new] at e; exact absurd e.symm (h4 j hk)
    · rfl
  · rcases hn j hj with hl | rfl
    · rw [SP.one_old hl]; exact h.sep.2.1 j hl
    · rw [SP.one_new]; exact ⟨h2, h3⟩
theorem SI.one_more {b : Nat} {v : Value} {hs : List Int} {bu ba wr : Bool} (hgp : ∀ j, j < P.nw → P.gp j = none) (h : SI P r s W) (t : Turns [] W W') (hl : Lies W' b 34 #[v, .pointer none, .bool bu, .bool ba, .bool wr]) (ho : W'.ownsRow P.B 3 1 v hs.length (intVs hs)) (hnew : ∀ g, v.ownBlock = some g → W.heap.size ≤ g) (hr : ∀ i, i ∈ hs → 0 ≤ i ∧ i < P.n) (hz : hs.length + r ≤ 5000 ∧ (s.gt P.nw).length + r ≤ 5000) :
    SI (P.one b) r { s with hs := updF s.hs P.nw hs, bu := updF s.bu P.nw bu, ba := updF s.ba P.nw ba, wr := updF s.wr P.nw wr } W' := by
  have hn : ∀ j, j < (P.one b).nw → j < P.nw ∨ j = P.nw := fun j hj => by have hj : j < P.nw + 1 := hj; omega
  have hg := SP.one_gp (b := b) hgp
  have h' := h.turns t (by simp)
  have cn : W'.cell? ⟨b, 0, none⟩ = some v := hl.cell 0
  have old : ∀ {a : Addr} {g o m c : Nat}, a ∈ P.ws → W'.cell? a = some (.slice (some ⟨g, o, none⟩) m c) → g < W.heap.size := fun ha e => by
    have e2 := (t.cell (h.block_lt ha) (by simp)).symm.trans e
    obtain ⟨_, cur, hl2⟩ := h.rw ⟨_, ha, _, _, _, e2⟩
    exact hl2.lt
  have new : ∀ {g o m c : Nat}, W'.cell? ⟨b, 0, none⟩ = some (.slice (some ⟨g, o, none⟩) m c) → W.heap.size ≤ g := fun e => by
    rw [cn] at e
    injection e with e
    exact hnew _ (by rw [e]; rfl)
  refine ⟨h'.ar, h.room, h.ok, fun j hj => ?_, fun j g hj e => (by rw [hg j hj] at e; cases e), fun j hj i hi => ?_, fun j hj => ?_, fun a a' ha ha' hne g o m c o' m' c' e e' => ?_, fun b' hb' => h'.exl b' hb'⟩
  · rcases hn j hj with hlt | rfl
    · obtain ⟨u, h1, h2⟩ := h'.wk j hlt
      have hj' : j ≠ P.nw := by omega
      refine ⟨u, ?_, ?_⟩
      · have e2 : (P.one b).gotV j = P.gotV j := by unfold SP.gotV; rw [hg j hj, hgp j hlt]
        rw [SP.one_old hlt, e2]
        simp only [updF_ne _ _ hj']
        exact h1
      · simp only [updF_ne _ _ hj']
        exact h2
    · refine ⟨v, ?_, ?_⟩
      · have e2 : (P.one b).gotV P.nw = .pointer none := by unfold SP.gotV; rw [hg P.nw hj]
        rw [SP.one_new, e2]
        simp only [updF_same]
        exact hl
      · simp only [updF_same]
        exact ho
  · rcases hn j hj with hlt | rfl
    · have hj' : j ≠ P.nw := by omega
      simp only [updF_ne _ _ hj'] at hi
      exact h.hb j hlt i hi
    · simp only [updF_same] at hi
      exact hr i hi
  · rcases hn j hj with hlt | rfl
    · have hj' : j ≠ P.nw := by omega
      simp only [updF_ne _ _ hj']
      exact h.size j hlt
    · simp only [updF_same]
      exact hz
  · rcases SP.one_ws ha with h1 | rfl <;> rcases SP.one_ws ha' with h2 | rfl
    · exact h'.apart a a' h1 h2 hne g o m c o' m' c' e e'
    · have := old h1 e
      have := new e'
      omega
    · have := old h2 e'
      have := new e
      omega
    · exact hne rfl

theorem Gm.Bx.one {b g : Nat} {t : TypeId} {cs : Array Value} {v : Value} (hi : SI P r s W) (h : (SM P).Bx W g t cs) (hb : W.heap.size ≤ b) (k1 : Turns [] W W') (hv : W'.cell? ⟨b, 0, none⟩ = some v) (hnew : ∀ g, v.ownBlock = some g → W.heap.size ≤ g) : (SM (P.one b)).Bx W' g t cs := by
  have hlt := h.l.lt
  refine ⟨h.l.turn k1 (by simp), fun hm => ?_, fun q => ?_, h.ty, h.outX⟩
  · rcases SP.up_L (n := W.heap.size) hm (fun i _ => ⟨hb, fun g hg => by cases hg⟩) with h1 | h1
    · exact h.out h1
    · omega
  · obtain ⟨a, ha, o, m, c, e⟩ := q
    rcases SP.one_ws ha with h1 | rfl
    · exact h.row ⟨a, h1, o, m, c, (k1.cell (hi.block_lt h1) (by simp)).symm.trans e⟩
    · rw [hv] at e
      injection e with e
      have := hnew g (by rw [e]; rfl)
      omega
/-- a row of bools that was handed in. -/
theorem BL.of_row {w0 : World} {A : Option Addr} {bs : List Bool} (hG : P.Good) (hi : SI P r s W) (hB : w0.heap.size ≤ P.B) (h0 : BRow w0 A bs) (h : BRow W A bs) (hex : P.ex = []) (hm : bs.length ≤ 100000) : BL P W A bs :=
  ⟨hm, fun hp => by
    obtain ⟨a, e, hb, _⟩ := h0.at_ hp
    obtain ⟨a', e', hb', hc⟩ := h.at_ hp
    rw [e] at e'
    injection e' with e'
    subst e'
    have okw := (sm_ok P hG).okw _ _ _ hi
    refine ⟨a, e, hb', fun hm => ?_, fun q => ?_, fun q => ?_, hc⟩
    · rcases List.mem_append.1 hm with h1 | h1
      · have := (sm_ok P hG).low _ h1
        have : P.B ≤ a.block := this
        omega
      · rw [hex] at h1; cases h1
    · have := (okw.row _ q).1
      have : P.B ≤ a.block := this
      omega
    · have := q.1
      omega⟩

/-- tasks made so far, one a worker. -/
structure Mk (P : SP) (m r : Nat) (ts : Nat → Nat) (qs : Nat → SPr) (s : SSt) (W : World) : Prop where
  good : P.Good
  gp : ∀ j, j < P.nw → P.gp j = none
  ex : P.ex = []
  si : SI P r s W
  tk : ∀ j, j < P.nw → P.B ≤ ts j ∧ ∃ v, Lies W (ts j) 89 #[v, .int .i64 0] ∧ ∀ x : More, (P.up x).Good → x.From W.heap.size → (SM (P.up x)).Code m (qs j) v W
  inj : ∀ i j, i < P.nw → j < P.nw → ts i = ts j → i = j
  gt : ∀ j, (s.gt j).length = 0

theorem Gm.Code.at_P {m : Nat} {q : SPr} {v : Value} {W : World} (hG : P.Good) (h : ∀ x : More, (P.up x).Good → x.From W.heap.size → (SM (P.up x)).Code m q v W) : (SM P).Code m q v W := by
  have := h ⟨0, fun i => P.wb (P.nw + i), fun i => P.gp (P.nw + i)⟩ (by rw [SP.up_zero]; exact hG) (fun i hi => by cases hi)
  rw [SP.up_zero] at this
  exact this

/-- a worker, its code and its task are made. -/
theorem Mk.next {m b : Nat} {ts : Nat → Nat} {qs : Nat → SPr} {q : SPr} {s1 s2 : SSt} {v cv : Value} {W W1 W2 W3 W4 : World} {tk : Nat} (h : Mk P m r ts qs s W) (hb : W.heap.size ≤ b)
    (k1 : Turns [] W W1) (hG1 : (P.one b).Good) (hi1 : SI (P.one b) r s1 W1) (hv : W1.cell? ⟨b, 0, none⟩ = some v) (hnew : ∀ g, v.ownBlock = some g → W.heap.size ≤ g)
    (f2 : Fr (P.one b).L (P.one b).ws W1 W2) (hi2 : SI (P.one b) r s2 W2) (hc2 : ∀ x : More, ((P.one b).up x).Good → x.From W2.heap.size → (SM ((P.one b).up x)).Code m q cv W2) (hgt : ∀ j, (s2.gt j).length = 0)
    (k3 : Turns [] W2 W3) (l3 : Lies W3 tk 89 #[cv, .int .i64 0]) (ht3 : W2.heap.size ≤ tk) (k4 : Turns K W3 W4) (hK : ∀ g, g ∈ K → P.B ≤ g ∧ ∃ cs, Lies W3 g 35 cs) :
    Mk (P.one b) m r (updF ts P.nw tk) (updF qs P.nw q) s2 W4 := by
  have hi3 := hi2.turns k3 (by simp)
  have hK4 : ∀ g, g ∈ K → IsTask (P.one b).B W3 g ∧ g ∉ (P.one b).L ∧ ¬ Rw (P.one b).ws W3 g := fun g hg => by
    obtain ⟨h1, cs, hl⟩ := hK g hg
    have ha := hi3.apart_ty hl (by decide) (by decide) (by decide) (by decide) (.inl (by decide))
    exact ⟨⟨h1, _, cs, by decide, hl⟩, ha⟩
  have hi4 := hi3.turns k4 fun g hg => (hK4 g hg).2
  have sz1 := k1.size
  have sz2 := f2.size
  have sz3 := k3.size
  have sz4 := k4.size
  have tkne : ∀ {g : Nat} {t : TypeId} {cs : Array Value}, Lies W3 g t cs → t ≠ 35 → g ∉ K := fun hl hne hm => by
    obtain ⟨_, cs, hl2⟩ := hK _ hm
    exact hl.unlike hl2 hne rfl
  have m24 : ∀ x : More, x.From W4.heap.size → Mv (P.one b).B (((P.one b).up x).L ++ ((P.one b).up x).ex) ((P.one b).up x).ws W2 W4 := fun x hx =>
    (Mv.up_turns hG1 hi2 k3 (by simp) (fun i hi => ⟨Nat.le_trans sz4 (hx i hi).1, fun g hg => Nat.le_trans sz4 ((hx i hi).2 g hg)⟩)).trans (Mv.up_turns hG1 hi3 k4 (fun g hg => ⟨(hK4 g hg).1, (hK4 g hg).2.1⟩) hx)
  have from_le : ∀ {x : More} {n n' : Nat}, x.From n → n' ≤ n → x.From n' := fun hx hn i hi => ⟨Nat.le_trans hn (hx i hi).1, fun g hg => Nat.le_trans hn ((hx i hi).2 g hg)⟩
  have m01 : ∀ x : More, x.From W4.heap.size → Mv (P.one b).B (((P.one b).up x).L ++ ((P.one b).up x).ex) ((P.one b).up x).ws W W1 := fun x hx =>
    ⟨k1.os, k1.tape, k1.output, k1.size, fun g hg _ _ => .inl (k1.block g hg (by simp)), fun g hg q => by
      obtain ⟨a, ha, o, m', c, e⟩ := SP.up_rw (from_le hx (show W1.heap.size ≤ W4.heap.size by omega)) (Nat.le_refl _) q
      rcases SP.one_ws ha with h1 | rfl
      · have e2 := (k1.cell (h.si.block_lt h1) (by simp)).symm.trans e
        exact SP.rw_up ⟨a, ha, o, m', c, e2⟩
      · rw [hv] at e
        injection e with e
        have := hnew g (by rw [e]; rfl)
        omega⟩
  have mv : ∀ x : More, x.From W4.heap.size → Mv (P.one b).B (((P.one b).up x).L ++ ((P.one b).up x).ex) ((P.one b).up x).ws W W4 := fun x hx =>
    ((m01 x hx).trans (Mv.up_fr f2 (from_le hx (by omega)))).trans (m24 x hx)
  have told : ∀ j, j < P.nw → ∃ v, Lies W3 (ts j) 89 #[v, .int .i64 0] := fun j hj => by
    obtain ⟨_, u, hl, _⟩ := h.tk j hj
    have l1 := hl.turn k1 (by simp)
    have ha := hi1.apart_ty l1 (by decide) (by decide) (by decide) (by decide) (.inl (by decide))
    exact ⟨u, (f2.lies l1 ha.1 ha.2).turn k3 (by simp)⟩
  refine ⟨hG1, SP.one_gp h.gp, h.ex, hi4, fun j hj => ?_, fun i j hi hj e => ?_, hgt⟩
  · have hj : j < P.nw + 1 := hj
    rcases (by omega : j < P.nw ∨ j = P.nw) with hlt | rfl
    · rw [updF_ne _ _ (by omega), updF_ne _ _ (by omega)]
      obtain ⟨h1, u, hl, hc⟩ := h.tk j hlt
      have l1 := hl.turn k1 (by simp)
      have ha := hi1.apart_ty l1 (by decide) (by decide) (by decide) (by decide) (.inl (by decide))
      have l3' := (f2.lies l1 ha.1 ha.2).turn k3 (by simp)
      refine ⟨h1, u, l3'.turn k4 (tkne l3' (by decide)), fun x hg hx => ?_⟩
      have hmv := mv x hx
      have hg' := hg
      unfold SP.one at hg' hmv ⊢
      rw [SP.up_up] at hg' hmv ⊢
      refine (hc _ hg' fun i hi => ?_).mv hmv
      show W.heap.size ≤ (if i < 1 then b else x.wb (i - 1)) ∧ ∀ g, (if i < 1 then none else x.gp (i - 1)) = some g → W.heap.size ≤ g
      by_cases h0 : i < 1
      · rw [if_pos h0, if_pos h0]
        exact ⟨hb, fun g hg => by cases hg⟩
      · have hi : i < 1 + x.nw := hi
        rw [if_neg h0, if_neg h0]
        have := hx (i - 1) (by omega)
        exact ⟨by omega, fun g hg => by have := this.2 g hg; omega⟩
    · rw [updF_same, updF_same]
      have hB : (P.one b).B ≤ tk := by
        have := ((sm_ok _ hG1).okw _ _ _ hi2).base
        have : (P.one b).B ≤ W2.heap.size := this
        omega
      exact ⟨hB, cv, l3.turn k4 (tkne l3 (by decide)), fun x hg hx => (hc2 x hg (from_le hx (by omega))).mv (m24 x hx)⟩
  · have hi : i < P.nw + 1 := hi
    have hj : j < P.nw + 1 := hj
    have low : ∀ j, j < P.nw → ts j < W.heap.size := fun j hj => by obtain ⟨_, u, hl, _⟩ := h.tk j hj; exact hl.lt
    rcases (by omega : i < P.nw ∨ i = P.nw) with hi1 | rfl <;> rcases (by omega : j < P.nw ∨ j = P.nw) with hj1 | rfl
    · rw [updF_ne _ _ (by omega), updF_ne _ _ (by omega)] at e
      exact h.inj i j hi1 hj1 e
    · rw [updF_ne _ _ (by omega), updF_same] at e
      have := low i hi1
      omega
    · rw [updF_same, updF_ne _ _ (by omega)] at e
      have := low j hj1
      omega
    · rfl

theorem Mk.task {m : Nat} {ts : Nat → Nat} {qs : Nat → SPr} (h : Mk P m r ts qs s W) {j : Nat} (hj : j < P.nw) : (SM P).Task m (qs j) 0 (ts j) W := by
  obtain ⟨h1, v, hl, hc⟩ := h.tk j hj
  have ha := h.si.apart_ty hl (by decide) (by decide) (by decide) (by decide) (.inl (by decide))
  exact ⟨⟨v, hl, Gm.Code.at_P h.good hc⟩, ha.1, h1, ha.2⟩
end

end Go.Proofs.Ythjbmaeoogophaa

/- Layer 8: a task that alone is picked is soon through. -/
namespace Go.Proofs.Ythjbmaeoogophaa
open Go.RowKit
set_option maxRecDepth 100000

/-- how many steps a task alone has at most. -/
def mu (q : SPr) (l : List Int) : Nat := (match q.m with
  | .done => 0
  | .popR => 3
  | .popN o => if getA l 0 = o then 2 else 5
  | .popT o _ => if getA l 0 = o then 1 else 4
  | .pushR _ => 3
  | .pushS _ o => if getA l 0 = o then 2 else 5
  | .pushT _ o => if getA l 0 = o then 1 else 4) + 3 * q.l.length
theorem mu_le (q : SPr) (l : List Int) : mu q l ≤ 5 + 3 * q.l.length := by
  obtain ⟨j, m, k⟩ := q
  cases m <;> simp only [mu] <;> first | omega | (split <;> omega)
/-- what an act is about: things there may be. -/
def qok (q : SPr) : Prop := match q.m with
  | .popN o => hIx o ≠ -1
  | .popT o _ => hIx o ≠ -1
  | .pushR i => 0 ≤ i
  | .pushS i _ => 0 ≤ i
  | .pushT i _ => 0 ≤ i
  | _ => True

theorem startS_facts (j : Nat) : ∀ (l : List Bool) (s : SSt), (startS j l s).1.j = j ∧ (startS j l s).2.l = s.l ∧ (startS j l s).2.hs = s.hs ∧ (startS j l s).2.gt = s.gt ∧ (startS j l s).2.wr = s.wr ∧ (startS j l s).1.l.length ≤ l.length ∧ (∀ L, mu (startS j l s).1 L ≤ 3 * l.length) ∧ ((∀ i, i ∈ s.hs j → 0 ≤ i) → qok (startS j l s).1)
  | [], s => ⟨rfl, rfl, rfl, rfl, rfl, Nat.le_refl _, fun _ => Nat.le_refl _, fun _ => trivial⟩
  | true :: l, s => ⟨rfl, rfl, rfl, rfl, rfl, by simp [startS], fun L => by simp [startS, mu]; omega, fun _ => trivial⟩
  | false :: l, s => by
    show (match (s.hs j).getLast? with | none => startS j l s | some i => (⟨j, .pushR i, l⟩, s)).1.j = j ∧ (match (s.hs j).getLast? with | none => startS j l s | some i => (⟨j, .pushR i, l⟩, s)).2.l = s.l ∧ (match (s.hs j).getLast? with | none => startS j l s | some i => (⟨j, .pushR i, l⟩, s)).2.hs = s.hs ∧ (match (s.hs j).getLast? with | none => startS j l s | some i => (⟨j, .pushR i, l⟩, s)).2.gt = s.gt ∧ (match (s.hs j).getLast? with | none => startS j l s | some i => (⟨j, .pushR i, l⟩, s)).2.wr = s.wr ∧ (match (s.hs j).getLast? with | none => startS j l s | some i => (⟨j, .pushR i, l⟩, s)).1.l.length ≤ (false :: l).length ∧ (∀ L, mu (match (s.hs j).getLast? with | none => startS j l s | some i => (⟨j, .pushR i, l⟩, s)).1 L ≤ 3 * (false :: l).length) ∧ ((∀ i, i ∈ s.hs j → 0 ≤ i) → qok (match (s.hs j).getLast? with | none => startS j l s | some i => (⟨j, .pushR i, l⟩, s)).1)
    cases h : (s.hs j).getLast? with
    | none =>
      obtain ⟨h1, h2, h3, h4, h5, h6, h7, h8⟩ := startS_facts j l s
      exact ⟨h1, h2, h3, h4, h5, by simp; omega, fun L => by have := h7 L; simp; omega, h8⟩
    | some i =>
      refine ⟨rfl, rfl, rfl, rfl, rfl, by simp, fun L => by simp [mu]; omega, fun hp => ?_⟩
      exact hp i (List.mem_of_getLast? h)

section
variable {P : SP}
theorem casA_length (l : List Int) (i o v : Int) : (casA l i o v).length = l.length := casA_len l i o v

/-- what a step leaves. -/
theorem sk_facts (q : SPr) (s : SSt) (hl : 0 < s.l.length) (hq : qok q) (hp : ∀ i, i ∈ s.hs q.j → 0 ≤ i) :
    (skStep P q s).1.j = q.j ∧ (skStep P q s).2.l.length = s.l.length ∧ (∀ i, i ≠ q.j → (skStep P q s).2.hs i = s.hs i) ∧ (skStep P q s).1.l.length ≤ q.l.length ∧ qok (skStep P q s).1 ∧ (∀ i, i ∈ (skStep P q s).2.hs q.j → 0 ≤ i) ∧ ((SM P).ended q = false → mu (skStep P q s).1 (skStep P q s).2.l + 1 ≤ mu q s.l) := by
  obtain ⟨j, m, l⟩ := q
  have has : hasA s.l 0 = true := by rw [hasA_iff]; omega
  have st : ∀ (s' : SSt), s'.l.length = s.l.length → (∀ i, i ≠ j → s'.hs i = s.hs i) → (∀ i, i ∈ s'.hs j → 0 ≤ i) → ∀ n, 3 * l.length + 1 ≤ n →
      (startS j l s').1.j = j ∧ (startS j l s').2.l.length = s.l.length ∧ (∀ i, i ≠ j → (startS j l s').2.hs i = s.hs i) ∧ (startS j l s').1.l.length ≤ l.length ∧ qok (startS j l s').1 ∧ (∀ i, i ∈ (startS j l s').2.hs j → 0 ≤ i) ∧ mu (startS j l s').1 (startS j l s').2.l + 1 ≤ n := by
    intro s' h1 h2 h3 n hn
    obtain ⟨g1, g2, g3, _, _, g6, g7, g8⟩ := startS_facts j l s'
    exact ⟨g1, by rw [g2]; exact h1, fun i hi => by rw [g3]; exact h2 i hi, g6, g8 h3, by rw [g3]; exact h3, by have := g7 (startS j l s').2.l; omega⟩
  cases m with
  | done => exact ⟨rfl, rfl, fun _ _ => rfl, Nat.le_refl _, trivial, hp, fun h => by cases h⟩
  | popR =>
    unfold skStep
    dsimp only
    split
    · rename_i h
      obtain ⟨a1, a2, a3, a4, a5, a6, a7⟩ := st (({ s with k := moreA s.l 0 s.k } : SSt).popped (P.has j) j (-1) false) rfl (fun i _ => rfl) hp (mu ⟨j, .popR, l⟩ s.l) (by simp only [mu]; omega)
      exact ⟨a1, a2, a3, a4, a5, a6, fun _ => a7⟩
    · rename_i h
      exact ⟨rfl, rfl, fun _ _ => rfl, Nat.le_refl _, h, hp, fun _ => by simp only [mu, ↓reduceIte]; omega⟩
  | popN o =>
    refine ⟨rfl, rfl, fun _ _ => rfl, Nat.le_refl _, hq, hp, fun _ => ?_⟩
    show mu ⟨j, .popT o _, l⟩ s.l + 1 ≤ _
    simp only [mu]
    split <;> omega
  | popT o y =>
    have hq : hIx o ≠ -1 := hq
    unfold skStep
    dsimp only
    split
    · rename_i h
      obtain ⟨a1, a2, a3, a4, a5, a6, a7⟩ := st (({ s with l := casA s.l 0 o (newH o y), k := moreA s.l 0 s.k } : SSt).popped (P.has j) j (hIx o) true) (casA_len _ _ _ _) (fun i hi => by simp [SSt.popped, updF_ne _ _ hi]) (fun i hi => by
        simp only [SSt.popped, if_true, updF_same] at hi
        rcases List.mem_append.1 hi with h1 | h1
        · exact hp i h1
        · rw [List.mem_singleton] at h1
          have := hIx_ix hq
          unfold Ix at this
          omega) (mu ⟨j, .popT o y, l⟩ s.l) (by simp only [mu]; split <;> omega)
      exact ⟨a1, a2, a3, a4, a5, a6, fun _ => a7⟩
    · rename_i h
      refine ⟨rfl, casA_len _ _ _ _, fun _ _ => rfl, Nat.le_refl _, trivial, hp, fun _ => ?_⟩
      have : getA s.l 0 ≠ o := fun e => h (by simp [casB, has, e])
      simp only [mu]
      rw [if_neg this]
      omega
  | pushR i => exact ⟨rfl, rfl, fun _ _ => rfl, Nat.le_refl _, hq, hp, fun _ => by
      show mu ⟨j, .pushS i (getA s.l 0), l⟩ s.l + 1 ≤ _
      simp only [mu, ↓reduceIte]; omega⟩
  | pushS i o =>
    have hq : 0 ≤ i := hq
    refine ⟨rfl, setA_length _ _ _, fun _ _ => rfl, Nat.le_refl _, hq, hp, fun _ => ?_⟩
    show mu ⟨j, .pushT i o, l⟩ (setA s.l (i + 1) (hIx o + 1)) + 1 ≤ _
    have e : getA (setA s.l (i + 1) (hIx o + 1)) 0 = getA s.l 0 := by rw [getA_setA]; exact if_neg (fun h => by have := h.1; omega)
    simp only [mu]
    rw [e]
    split <;> omega
  | pushT i o =>
    unfold skStep
    dsimp only
    split
    · rename_i h
      obtain ⟨a1, a2, a3, a4, a5, a6, a7⟩ := st (({ s with l := casA s.l 0 o (newH o i), k := moreA s.l 0 s.k } : SSt).pushed j) (casA_len _ _ _ _) (fun i hi => by simp [SSt.pushed, updF_ne _ _ hi]) (fun i hi => by
        simp only [SSt.pushed, updF_same] at hi
        rw [List.dropLast_eq_take] at hi
        exact hp i (List.mem_of_mem_take hi)) (mu ⟨j, .pushT i o, l⟩ s.l) (by simp only [mu]; split <;> omega)
      exact ⟨a1, a2, a3, a4, a5, a6, fun _ => a7⟩
    · rename_i h
      refine ⟨rfl, casA_len _ _ _ _, fun _ _ => rfl, Nat.le_refl _, hq, hp, fun _ => ?_⟩
      have : getA s.l 0 ≠ o := fun e => h (by simp [casB, has, e])
      simp only [mu]
      rw [if_neg this]
      omega

/-- what holds of all tasks, however they are picked. -/
structure Inv8 (P : SP) (N : Nat) (c : Cfg SSt SPr) : Prop where
  len : 0 < c.s.l.length
  j : ∀ i, i < N → (c.q i).j = i
  ok : ∀ i, i < N → qok (c.q i)
  hs : ∀ i, i < N → ∀ y, y ∈ c.s.hs i → 0 ≤ y
  w : ∀ i, i < N → (SM P).W (c.q i) c.s
  l : ∀ i, i < N → (c.q i).l.length ≤ 12
theorem W_hs {q : SPr} {s s' : SSt} (h : (SM P).W q s) (e : s'.hs q.j = s.hs q.j) : (SM P).W q s' := by
  obtain ⟨i, m, l⟩ := q
  have e : s'.hs i = s.hs i := e
  cases m <;> first | trivial | (show s'.hs i ≠ []; rw [e]; exact h)
theorem Inv8.pick {N : Nat} {c : Cfg SSt SPr} (h : Inv8 P N c) (y : Int) : Inv8 P N ((SM P).pick N c y) := by
  unfold Gm.pick
  by_cases hd : (SM P).does N c y = true
  · rw [if_pos hd]
    obtain ⟨k, rfl, hk⟩ : ∃ k : Nat, y = k ∧ k < N := by
      simp [Gm.does] at hd
      exact ⟨y.toNat, by omega, by omega⟩
    simp only [Int.toNat_natCast]
    have hj := h.j k hk
    obtain ⟨a1, a2, a3, a4, a5, a6, _⟩ := sk_facts (P := P) (c.q k) c.s h.len (h.ok k hk) (by rw [hj]; exact h.hs k hk)
    rw [hj] at a1 a3 a6
    refine ⟨by show 0 < ((SM P).step (c.q k) c.s).2.l.length; rw [show ((SM P).step (c.q k) c.s).2.l.length = c.s.l.length from a2]; exact h.len, fun i hi => ?_, fun i hi => ?_, fun i hi => ?_, fun i hi => ?_, fun i hi => ?_⟩
    · by_cases e : i = k
      · subst e; show (updF c.q i _ i).j = i; rw [updF_same]; exact a1
      · show (updF c.q k _ i).j = i; rw [updF_ne _ _ e]; exact h.j i hi
    · by_cases e : i = k
      · subst e; show qok (updF c.q i _ i); rw [updF_same]; exact a5
      · show qok (updF c.q k _ i); rw [updF_ne _ _ e]; exact h.ok i hi
    · by_cases e : i = k
      · subst e; exact a6
      · show ∀ y, y ∈ ((SM P).step (c.q k) c.s).2.hs i → 0 ≤ y
        rw [show ((SM P).step (c.q k) c.s).2.hs i = c.s.hs i from a3 i e]
        exact h.hs i hi
    · by_cases e : i = k
      · subst e; show (SM P).W (updF c.q i _ i) _; rw [updF_same]; exact W_step (h.w i hi)
      · show (SM P).W (updF c.q k _ i) _
        rw [updF_ne _ _ e]
        exact W_hs (h.w i hi) (by rw [h.j i hi]; exact a3 i e)
    · by_cases e : i = k
      · subst e; show (updF c.q i _ i).l.length ≤ 12; rw [updF_same]; exact Nat.le_trans a4 (h.l i hi)
      · show (updF c.q k _ i).l.length ≤ 12; rw [updF_ne _ _ e]; exact h.l i hi
  · rw [if_neg hd]
    exact h
theorem Inv8.picks {N : Nat} {c : Cfg SSt SPr} (h : Inv8 P N c) (xs : List Int) : ∀ m, m ≤ xs.length → Inv8 P N ((SM P).picks N c xs m)
  | 0, _ => by simpa [Gm.picks] using h
  | m + 1, hm => by
    rw [picks_succ (SM P) N c xs m (by omega)]
    exact (Inv8.picks h xs m (by omega)).pick _

/-- alone, it is through. -/
theorem soon : ∀ (n : Nat) (q : SPr) (s : SSt), 0 < s.l.length → qok q → (∀ i, i ∈ s.hs q.j → 0 ≤ i) → mu q s.l ≤ n → (SM P).ended ((SM P).go n (q, s)).1 = true
  | 0, q, s, hl, hq, hp, hm => by
    obtain ⟨j, m, l⟩ := q
    cases m <;> first | rfl | (exfalso; simp only [mu] at hm; omega) | (exfalso; simp only [mu] at hm; split at hm <;> omega)
  | n + 1, q, s, hl, hq, hp, hm => by
    cases he : (SM P).ended q with
    | true => simp only [Gm.go, he]
    | false =>
      simp only [Gm.go, he]
      obtain ⟨a1, a2, a3, a4, a5, a6, a7⟩ := sk_facts (P := P) q s hl hq hp
      have := a7 he
      exact soon n (skStep P q s).1 (skStep P q s).2 (by rw [a2]; exact hl) a5 (by rw [a1]; exact a6) (by omega)
theorem soon_run {q : SPr} {s : SSt} {d most : Nat} (hl : 0 < s.l.length) (hq : qok q) (hp : ∀ i, i ∈ s.hs q.j → 0 ≤ i) (h12 : q.l.length ≤ 12) (hm : 41 ≤ most) : (SM P).ended ((SM P).runN q s d most).1 = true := by
  have hmu := mu_le q s.l
  have h := soon (P := P) most q s hl hq hp (by omega)
  rw [(runN_go (M := SM P) most q s d).1]
  exact h
end

end Go.Proofs.Ythjbmaeoogophaa

/- Layer 8: StackSoon. -/
namespace Go.Proofs.Ythjbmaeoogophaa
open Go.RowKit Go.ChangeShapes Go.WideShapes
set_option maxRecDepth 100000

/-- while tasks are made. -/
structure Ms (w0 : World) (p bx B0 k r t : Nat) (tv : Value) (W : World) : Prop where
  at_ : ∃ (P : SP) (ts : Nat → Nat) (qs : Nat → SPr) (s : SSt), Mk P r r ts qs s W ∧ P.nw = t ∧ P.n = k ∧ P.B = B0 ∧ P.p = p ∧ (SM P).Bx W bx 27 (stC P) ∧ VRow W B0 35 tv ((List.range t).map fun i => ptr (ts i)) ∧ Inv8 P t ⟨s, qs, fun _ => 0, 0⟩
  be : Below B0 w0 W

theorem Ms.start {w0 W : World} {p c bx B0 k r : Nat} (ha : Arena W p c (List.replicate (k + 1) 0) 0) (h1 : B0 ≤ p) (h2 : B0 ≤ c) (h3 : p ≠ c) (hk : k ≤ 1000) (hr : r ≤ 5000) (hb : Lies W bx 27 (chC p 0 38 #[])) (be : Below B0 w0 W) : Ms w0 p bx B0 k r 0 (.slice none 0 0) W := by
  have hws : (⟨p, c, B0, k, 0, fun _ => 0, fun _ => none, []⟩ : SP).ws = [] := rfl
  have hL : (⟨p, c, B0, k, 0, fun _ => 0, fun _ => none, []⟩ : SP).L = [p, c] := rfl
  refine ⟨⟨⟨p, c, B0, k, 0, fun _ => 0, fun _ => none, []⟩, fun _ => 0, fun _ => ⟨0, .done, []⟩, ⟨List.replicate (k + 1) 0, 0, fun _ => [], fun _ => [], fun _ => false, fun _ => false, fun _ => false⟩, ⟨⟨⟨h1, h2, fun j hj => absurd hj (Nat.not_lt_zero _), fun j g hj => absurd hj (Nat.not_lt_zero _)⟩, fun i j hi => absurd hi (Nat.not_lt_zero _), fun i j g hi => absurd hi (Nat.not_lt_zero _), ⟨h3, fun j hj => absurd hj (Nat.not_lt_zero _), fun j g hj => absurd hj (Nat.not_lt_zero _), fun i j g hi => absurd hi (Nat.not_lt_zero _)⟩, hk⟩, fun j hj => rfl, rfl, ⟨ha, by show (0 : Int) + r ≤ _; omega, sok_zero k, fun j hj => absurd hj (Nat.not_lt_zero _), fun j g hj => absurd hj (Nat.not_lt_zero _), fun j hj => absurd hj (Nat.not_lt_zero _), fun j hj => absurd hj (Nat.not_lt_zero _), fun a b h => (by rw [hws] at h; cases h), fun b hb => (by cases hb)⟩, fun j hj => absurd hj (Nat.not_lt_zero _), fun i j hi => absurd hi (Nat.not_lt_zero _), fun _ => rfl⟩, rfl, rfl, rfl, rfl, ⟨hb, fun hm => ?_, fun q => ?_, by decide, fun hm => (by cases hm)⟩, VRow.nil _ _ _, ⟨by show 0 < (List.replicate (k + 1) (0 : Int)).length; simp, fun i hi => absurd hi (Nat.not_lt_zero _), fun i hi => absurd hi (Nat.not_lt_zero _), fun i hi => absurd hi (Nat.not_lt_zero _), fun i hi => absurd hi (Nat.not_lt_zero _), fun i hi => absurd hi (Nat.not_lt_zero _)⟩⟩, be⟩
  · have hm : bx ∈ [p, c] := hm
    simp at hm
    rcases hm with rfl | rfl
    · exact hb.unlike ha.head (by decide) rfl
    · exact hb.unlike ha.body (by decide) rfl
  · obtain ⟨a, ha, _⟩ := q
    have ha : a ∈ ([] : List Addr) := ha
    cases ha

section
variable {P : SP} {w0 W wc W2 W4 : World} {p bx B0 k r : Nat} {ts : Nat → Nat} {qs : Nat → SPr} {s : SSt} {v cv tv tv' : Value} {hs : List Int}
/-- a worker more: its state ahead of its code. -/
def SSt.add (s : SSt) (j : Nat) (hs : List Int) : SSt := { s with hs := updF s.hs j hs, bu := updF s.bu j false, ba := updF s.ba j false, wr := updF s.wr j false }
theorem Mk.begin {m : Nat} (h : Mk P m r ts qs s W) (k1 : Turns [] W wc) (hl : Lies wc W.heap.size 34 #[v, .pointer none, .bool false, .bool false, .bool false]) (ho : wc.ownsRow P.B 3 1 v hs.length (intVs hs)) (hnew : ∀ g, v.ownBlock = some g → W.heap.size ≤ g) (hr : ∀ i, i ∈ hs → 0 ≤ i ∧ i < P.n) (hz : hs.length ≤ 1) (hr4 : r ≤ 4000) :
    (P.one W.heap.size).Good ∧ SI (P.one W.heap.size) r (s.add P.nw hs) wc := by
  have okw := (sm_ok P h.good).okw _ _ _ h.si
  have a1 := h.si.ar.head.lt
  have a2 := h.si.ar.body.lt
  have hb : P.B ≤ W.heap.size := okw.base
  exact ⟨h.good.one h.gp hb (by omega) (by omega) (fun j hj e => by
    obtain ⟨_, hw, _⟩ := h.si.wk j hj
    have := hw.lt
    omega), h.si.one_more h.gp k1 hl ho hnew hr (by have := h.gt P.nw; omega)⟩

theorem Ms.next (h : Mk P r r ts qs s W) (hn : P.n = k) (hB : P.B = B0) (hp : P.p = p) (hbox : (SM P).Bx W bx 27 (stC P)) (hv : VRow W B0 35 tv ((List.range P.nw).map fun i => ptr (ts i))) (hinv : Inv8 P P.nw ⟨s, qs, fun _ => 0, 0⟩) (be : Below B0 w0 W)
    (k1 : Turns [] W wc) (hl : Lies wc W.heap.size 34 #[v, .pointer none, .bool false, .bool false, .bool false]) (hnew : ∀ g, v.ownBlock = some g → W.heap.size ≤ g) (hr : ∀ i, i ∈ hs → 0 ≤ i ∧ i < P.n) (hG1 : (P.one W.heap.size).Good) (hi1 : SI (P.one W.heap.size) r (s.add P.nw hs) wc)
    (l : List Bool) (h12 : l.length ≤ 12) (f2 : Fr (P.one W.heap.size).L (P.one W.heap.size).ws wc W2) (hi2 : SI (P.one W.heap.size) r (startS P.nw l (s.add P.nw hs)).2 W2) (hc2 : ∀ x : More, ((P.one W.heap.size).up x).Good → x.From W2.heap.size → (SM ((P.one W.heap.size).up x)).Code r (startS P.nw l (s.add P.nw hs)).1 cv W2)
    (hv4 : VRow W4 B0 35 tv' ((List.range P.nw).map (fun i => ptr (ts i)) ++ [ptr W2.heap.size])) (t4 : Turns tv.ownBlock.toList (W2.alloc (.cells #[cv, .int .i64 0] 89)) W4) : Ms w0 p bx B0 k r (P.nw + 1) tv' W4 := by
  obtain ⟨g1, g2, g3, g4, _, g6, _, g8⟩ := startS_facts P.nw l (s.add P.nw hs)
  have hM1 := sm_ok _ hG1
  have k3 : Turns [] W2 (W2.alloc (.cells #[cv, .int .i64 0] 89)) := (Turns.refl _ _).alloc _
  have l3 : Lies (W2.alloc (.cells #[cv, .int .i64 0] 89)) W2.heap.size 89 #[cv, .int .i64 0] := Lies.new _ _ _
  generalize (W2.alloc (.cells #[cv, .int .i64 0] 89)) = W3 at *
  have hi3 := hi2.turns k3 (by simp)
  have hvc := hv.turns k1 (by simp)
  have hv2 : VRow W2 B0 35 tv _ := hvc.frE hi1 f2 (by decide) (by decide) (by decide) (by decide) (.inl (by decide))
  have hv3 := hv2.turns k3 (by simp)
  have hcell : wc.cell? ⟨W.heap.size, 0, none⟩ = some v := hl.cell 0
  have hK : ∀ g, g ∈ tv.ownBlock.toList → P.B ≤ g ∧ ∃ cs, Lies W3 g 35 cs := fun g hg => by
    obtain ⟨h1, cur, h2⟩ := hv3.lies (g := g) (by simpa using hg)
    exact ⟨by omega, cur, h2⟩
  have hKL : ∀ g, g ∈ tv.ownBlock.toList → g ∉ (P.one W.heap.size).L ∧ ¬ Rw (P.one W.heap.size).ws W3 g := fun g hg => by
    obtain ⟨_, cs, h2⟩ := hK g hg
    exact hi3.apart_ty h2 (by decide) (by decide) (by decide) (by decide) (.inl (by decide))
  have mk := h.next (Nat.le_refl _) k1 hG1 hi1 hcell hnew f2 hi2 hc2 (fun j => by rw [g4]; exact h.gt j) k3 l3 (Nat.le_refl _) t4 hK
  have box1 := Gm.Bx.one h.si hbox (Nat.le_refl _) k1 hcell hnew
  have box2 := box1.mv f2.mv
  have box3 := box2.mv ((hM1.okw _ _ _ hi2).mv hM1 k3)
  have box4 := Gm.Bx.turns hG1 hi3 box3 t4 (fun g hg => (hKL g hg).1) (fun hg => by
    obtain ⟨_, cs, h2⟩ := hK _ hg
    exact h2.unlike box3.l (by decide) rfl)
  have b0 : B0 ≤ W.heap.size := by have : P.B ≤ W.heap.size := ((sm_ok P h.good).okw _ _ _ h.si).base; omega
  have be1 := be.trans (k1.below (by simp) b0)
  have b1 : B0 ≤ wc.heap.size := Nat.le_trans b0 k1.size
  have be2 := be1.trans ((hi1.below hG1 (fun b hb => .inl hb) f2).mono (show B0 ≤ P.B by omega))
  have b2 := Nat.le_trans b1 f2.size
  have be3 := be2.trans (k3.below (by simp) b2)
  have be4 := be3.trans (t4.below (fun g hg => by rw [← hB]; exact (hK g hg).1) (Nat.le_trans b2 k3.size))
  have hh : ∀ i, i < P.nw → (startS P.nw l (s.add P.nw hs)).2.hs i = s.hs i := fun i hi => by rw [g3]; exact updF_ne _ _ (by omega)
  have hhn : (startS P.nw l (s.add P.nw hs)).2.hs P.nw = hs := by rw [g3]; exact updF_same _ _ _
  have hpos : ∀ i, i ∈ (s.add P.nw hs).hs P.nw → 0 ≤ i := fun i hi => by
    have hi : i ∈ updF s.hs P.nw hs P.nw := hi
    rw [updF_same] at hi
    exact (hr i hi).1
  refine ⟨⟨P.one W.heap.size, _, _, _, mk, rfl, hn, hB, hp, box4, ?_, ⟨by show 0 < (startS P.nw l (s.add P.nw hs)).2.l.length; rw [g2]; exact hinv.len, fun i hi => ?_, fun i hi => ?_, fun i hi => ?_, fun i hi => ?_, fun i hi => ?_⟩⟩, be4⟩
  · rw [List.range_succ, List.map_append]
    have e : (List.range P.nw).map (fun i => ptr (updF ts P.nw W2.heap.size i)) = (List.range P.nw).map (fun i => ptr (ts i)) := List.map_congr_left fun i hi => by
      have := List.mem_range.1 hi
      rw [updF_ne _ _ (by omega)]
    rw [e, List.map_singleton, updF_same]
    exact hv4
  · show (updF qs P.nw _ i).j = i
    rcases (by omega : i < P.nw ∨ i = P.nw) with h1 | rfl
    · rw [updF_ne _ _ (by omega)]; exact hinv.j i h1
    · rw [updF_same]; exact g1
  · show qok (updF qs P.nw _ i)
    rcases (by omega : i < P.nw ∨ i = P.nw) with h1 | rfl
    · rw [updF_ne _ _ (by omega)]; exact hinv.ok i h1
    · rw [updF_same]; exact g8 hpos
  · show ∀ y, y ∈ (startS P.nw l (s.add P.nw hs)).2.hs i → 0 ≤ y
    rcases (by omega : i < P.nw ∨ i = P.nw) with h1 | rfl
    · rw [hh i h1]; exact hinv.hs i h1
    · rw [hhn]; exact fun y hy => (hr y hy).1
  · show (SM P).W (updF qs P.nw _ i) _
    rcases (by omega : i < P.nw ∨ i = P.nw) with h1 | rfl
    · rw [updF_ne _ _ (by omega)]
      exact W_hs (hinv.w i h1) (by rw [hinv.j i h1]; exact hh i h1)
    · rw [updF_same]; exact W_start _ _ _
  · show (updF qs P.nw _ i).l.length ≤ 12
    rcases (by omega : i < P.nw ∨ i = P.nw) with h1 | rfl
    · rw [updF_ne _ _ (by omega)]; exact hinv.l i h1
    · rw [updF_same]; omega
end

end Go.Proofs.Ythjbmaeoogophaa

/- Layer 8: StackSoon. -/
namespace Go.Proofs.Ythjbmaeoogophaa
open Go.RowKit Go.ChangeShapes Go.WideShapes
set_option maxRecDepth 100000

theorem task_info8 : (Try.prog.info? 35).map (fun i => (i.zero, i.size, i.bytes)) = some (some (.pointer none), 1, 8) := by kernel_rfl

set_option maxHeartbeats 1000000 in
theorem soon8 (nn who : Nat) (hnn : nn < 256) (hwho : who < 256) (A : Option Addr) (n cp : Nat) (bss : List (List Bool)) (hbss : bss.length = n) (PA : Option Addr) (np pcp : Nat) (xs : List Int) (w : World) (hg : BGrid w A bss) (hp : Row w .i64 PA np xs) :
    Calls Try.prog 5 #[.int .u8 nn, .slice A n cp, .slice PA np pcp, .int .u8 who] w fun e w' => e = .returned (.bool true) ∧ Below w.heap.size w w' := by
  by_cases h5 : 5 < n
  · have h5' : (5 : Int) < n := by omega
    go_enter Try.func5, Try.ntmps5
    go_wp2_with fail
    refine (speaks8_any _).mono ?_
    rintro e w1 ⟨rfl, b1⟩
    go_wp2_with fail
    refine (speaks8_any _).mono ?_
    rintro e w2 ⟨rfl, b2⟩
    go_wp2
    go_ret
    exact ⟨rfl, b1.trans (b2.mono b1.size)⟩
  · by_cases h0 : n = 0
    · subst h0
      go_enter Try.func5, Try.ntmps5
      go_wp2_with fail
      refine (speaks8_any _).mono ?_
      rintro e w1 ⟨rfl, b1⟩
      go_wp2_with fail
      refine (speaks8_any _).mono ?_
      rintro e w2 ⟨rfl, b2⟩
      go_wp2
      go_ret
      exact ⟨rfl, b1.trans (b2.mono b1.size)⟩
    · by_cases h3 : 300 < np
      · have h5' : ¬ ((5 : Int) < n) := by omega
        have h0' : ((n : Int) == 0) = false := by simp [h0]
        have h3' : (300 : Int) < np := by omega
        go_enter Try.func5, Try.ntmps5
        go_wp2_with fail
        refine (speaks8_any _).mono ?_
        rintro e w1 ⟨rfl, b1⟩
        go_wp2_with fail
        refine (speaks8_any _).mono ?_
        rintro e w2 ⟨rfl, b2⟩
        go_wp2
        go_ret
        exact ⟨rfl, b1.trans (b2.mono b1.size)⟩
      · have h5' : ¬ ((5 : Int) < n) := by omega
        have h0' : ((n : Int) == 0) = false := by simp [h0]
        have h3' : ¬ ((300 : Int) < np) := by omega
        obtain ⟨k0, hk0⟩ : ∃ k0, nn % 12 = k0 := ⟨_, rfl⟩
        have hk12 : k0 < 12 := by omega
        have hmod : ((nn : Int).tmod 12) = (k0 : Int) := by rw [← hk0]; rw [Int.tmod_eq_emod_of_nonneg (by omega)]; omega
        have hwr : IntKind.i64.wrap (nn : Int) = nn := by rw [IntKind.wrap_i64]; omega
        have hwk0 : IntKind.i64.wrap (k0 : Int) = k0 := by rw [IntKind.wrap_i64]; omega
        obtain ⟨k, hk⟩ : ∃ k, k0 + 1 = k := ⟨_, rfl⟩
        have hkk : 1 + (k0 : Int) = (k : Int) := by omega
        have hwk : IntKind.i64.wrap (k : Int) = k := by rw [IntKind.wrap_i64]; omega
        go_enter Try.func5, Try.ntmps5
        go_wp2_with fail
        refine (speaks8_any _).mono ?_
        rintro e w1 ⟨rfl, b1⟩
        go_wp2_with fail
        refine (fresh8_any k (by omega) w1).mono ?_
        rintro e w2 ⟨p, c, rfl, ha, b2, hc, hp2⟩
        have y2 := fun (a : Addr) (f : FuncId) (c : Array Value) (w : World) => run_store Try.prog w a (.func (.func f) #[] c) .plain rfl
        go_upto_region 9 with (fail)
        clear y2
        have hz1 := ha.head.lt
        have hb2 := b2.size
        generalize hh : w2.heap.size = h2 at *
        obtain ⟨W4, hW4⟩ : ∃ W4, (w2.alloc (.cells #[.pointer (some ⟨p, 0, none⟩), .int .i64 0, .func (.func 38) #[] #[]] 27)) = W4 := ⟨_, rfl⟩
        have k4 : Turns [] w2 W4 := by rw [← hW4]; exact (Turns.refl _ _).alloc _
        have l1 : Lies W4 h2 27 #[.pointer (some ⟨p, 0, none⟩), .int .i64 0, .func (.func 38) #[] #[]] := by rw [← hW4]; exact Lies.new_of _ _ (by simp [hh])
        have ha4 := ha.turn k4 (by simp) (by simp)
        have hS : Ms w1 p h2 w1.heap.size k 400 0 (.slice none 0 0) W4 := Ms.start ha4 (by omega) hc (by omega) (by omega) (by omega) l1 (b2.trans (k4.below (by simp) (by omega)))
        rw [hW4]
        clear hW4 k4 l1 ha ha4 hh hz1 hb2 b2 hk0 hmod hwr hk hkk h3'
        have hBW : Below w.heap.size w w1 := b1
        go_loopw [12, 13, 14, 15, 48] (fun tv _ _ _ i W => ∃ t : Nat, i = .int .i64 (t : Int) ∧ t ≤ n ∧ Ms w1 p h2 w1.heap.size k 400 t tv W) (fun _ _ _ _ i _ => n - (intOf i).toNat)
        case atStart => exact ⟨0, rfl, Nat.zero_le _, hS⟩
        case round =>
          clear hS
          obtain ⟨t, rfl, htn, hS⟩ := hrel
          generalize wr = W at *
          generalize u12 = tv at *
          by_cases ht : t < n
          · obtain ⟨P, ts, qs, s, mk, hPt, hPn, hPB, hPp, hbox, hv, hinv⟩ := hS.at_
            have hbe := hS.be
            have hgW := hg.keep (hBW.trans (hbe.mono hBW.size))
            obtain ⟨a, rfl, hab, hcells⟩ := hgW.at_ (by omega)
            obtain ⟨A', c', hcell, hlc, hlm, hrow⟩ := hcells t (by omega)
            obtain ⟨a0, ea0, hab0, hcells0⟩ := hg.at_ (by omega)
            injection ea0 with ea0
            subst ea0
            obtain ⟨A0, c0', hcell0, _, _, hrow0⟩ := hcells0 t (by omega)
            have hA0 : BRow w A' (bss.getD t []) := by
              have e := ((hBW.trans (hbe.mono hBW.size)).cell (p := a.add t) (by rw [add_block]; exact hab0)).symm.trans hcell
              rw [hcell0] at e
              injection e with e
              injection e with e _ _
              rw [← e]
              exact hrow0
            clear hcells hcells0 hcell0 hrow0 hgW
            generalize hbs : bss.getD t [] = bs at *
            have hL := bs.length
            by_cases h12 : 12 < bs.length
            · have h12' : (12 : Int) < bs.length := by omega
              have hbe2 := hBW.trans (hbe.mono hBW.size)
              clear mk hbox hv hinv hS hrow hA0
              generalize bs.length = L at *
              go_wp2_with fail
              go_ret
              exact ⟨rfl, hbe2⟩
            · have h12' : ¬ ((12 : Int) < bs.length) := by omega
              have HMK := Lib.hid mk
              have HINV := Lib.hid hinv
              have HBOX := Lib.hid hbox
              have HV := Lib.hid hv
              have HROW := Lib.hid (And.intro hrow hA0)
              have HP := Lib.hid (And.intro hPt (And.intro hPn (And.intro hPB hPp)))
              have HLC := Lib.hid (And.intro hlc hlm)
              obtain ⟨L, hLl⟩ : ∃ L, bs.length = L := ⟨_, rfl⟩
              have HL := Lib.hid hLl
              rw [hLl] at hcell h12'
              clear mk hbox hv hinv hS hrow hA0 hPt hPn hPB hPp hlc hlm hbs h12 hLl hL
              go_upto_if 60 with (fail)
              go_cut [] (fun wc => ∃ v hs, Turns [] W wc ∧ Lies wc W.heap.size 34 #[v, .pointer none, .bool false, .bool false, .bool false] ∧ wc.ownsRow w1.heap.size 3 1 v hs.length (intVs hs) ∧ (∀ g, v.ownBlock = some g → W.heap.size ≤ g) ∧ (∀ i, i ∈ hs → 0 ≤ i ∧ i < k) ∧ hs.length ≤ 1)
              case first =>
                have lW : Lies (W.alloc (.cells #[.slice none 0 0, .pointer none, .bool false, .bool false, .bool false] 34)) W.heap.size 34 #[.slice none 0 0, .pointer none, .bool false, .bool false, .bool false] := Lies.new _ _ _
                have kW : Turns [] W (W.alloc (.cells #[.slice none 0 0, .pointer none, .bool false, .bool false, .bool false] 34)) := (Turns.refl _ _).alloc _
                have zW : (W.alloc (.cells #[.slice none 0 0, .pointer none, .bool false, .bool false, .bool false] 34)).heap.size = W.heap.size + 1 := by simp
                have hB1 : w1.heap.size ≤ W.heap.size := hbe.size
                by_cases htk : t < k
                · have htk' : (t : Int) < k := by omega
                  have F : ∃ v hs, Turns [] W ((W.alloc (.cells #[.slice (some ⟨W.heap.size + 1, 0, none⟩) 1 1, .pointer none, .bool false, .bool false, .bool false] 34)).alloc (.cells #[.int .i64 (t : Int)] 3)) ∧ Lies ((W.alloc (.cells #[.slice (some ⟨W.heap.size + 1, 0, none⟩) 1 1, .pointer none, .bool false, .bool false, .bool false] 34)).alloc (.cells #[.int .i64 (t : Int)] 3)) W.heap.size 34 #[v, .pointer none, .bool false, .bool false, .bool false] ∧ ((W.alloc (.cells #[.slice (some ⟨W.heap.size + 1, 0, none⟩) 1 1, .pointer none, .bool false, .bool false, .bool false] 34)).alloc (.cells #[.int .i64 (t : Int)] 3)).ownsRow w1.heap.size 3 1 v hs.length (intVs hs) ∧ (∀ g, v.ownBlock = some g → W.heap.size ≤ g) ∧ (∀ i, i ∈ hs → 0 ≤ i ∧ i < k) ∧ hs.length ≤ 1 := by
                    refine ⟨.slice (some ⟨W.heap.size + 1, 0, none⟩) 1 1, [(t : Int)], ((Turns.refl _ _).alloc _).alloc _, (Lies.new _ _ _).alloc _, ⟨rfl, .inr ⟨W.heap.size + 1, 1, #[.int .i64 (t : Int)], rfl, by omega, ?_, Nat.le_refl _, by simp [maxLen], rfl, rfl⟩⟩, fun g hg => ?_, fun i hi => ?_, by simp⟩
                    · exact Lies.new_of (w := (W.alloc (.cells #[.slice (some ⟨W.heap.size + 1, 0, none⟩) 1 1, .pointer none, .bool false, .bool false, .bool false] 34))) 3 #[.int .i64 (t : Int)] (by simp)
                    · simp [Value.ownBlock] at hg
                      omega
                    · simp at hi
                      omega
                  clear lW kW
                  go_wp2_with fail
                  go_meet
                  case rel => exact F
                · have htk' : ¬ ((t : Int) < k) := by omega
                  have F : ∃ v hs, Turns [] W (W.alloc (.cells #[.slice none 0 0, .pointer none, .bool false, .bool false, .bool false] 34)) ∧ Lies (W.alloc (.cells #[.slice none 0 0, .pointer none, .bool false, .bool false, .bool false] 34)) W.heap.size 34 #[v, .pointer none, .bool false, .bool false, .bool false] ∧ (W.alloc (.cells #[.slice none 0 0, .pointer none, .bool false, .bool false, .bool false] 34)).ownsRow w1.heap.size 3 1 v hs.length (intVs hs) ∧ (∀ g, v.ownBlock = some g → W.heap.size ≤ g) ∧ (∀ i, i ∈ hs → 0 ≤ i ∧ i < k) ∧ hs.length ≤ 1 :=
                    ⟨.slice none 0 0, [], kW, lW, World.ownsRow_nil _ _ _ _, fun g hg => (by cases hg), fun i hi => (by cases hi), by simp⟩
                  clear lW kW
                  go_wp2_with fail
                  go_meet
                  case rel => exact F
              case rest =>
                obtain ⟨v, hs, k1, hl, ho, hnew, hr, hz⟩ := hcut
                obtain ⟨hPt, hPn, hPB, hPp⟩ := HP.out
                subst hPt
                have hB1 : w1.heap.size ≤ W.heap.size := hbe.size
                obtain ⟨hG1, hi1⟩ := HMK.out.begin (hs := hs) k1 hl (by rw [hPB]; exact ho) hnew (by rw [hPn]; exact hr) hz (by omega)
                have hbe1 : Below w1.heap.size w1 wc := hbe.trans (k1.below (by simp) hB1)
                have hbel : Below W.heap.size W wc := k1.below (by simp) (Nat.le_refl _)
                have hBL : BL (P.one W.heap.size) wc A' bs := BL.of_row hG1 hi1 (show w.heap.size ≤ P.B by rw [hPB]; exact hBW.size) HROW.out.2 (HROW.out.1.keep hbel) HMK.out.ex (by rw [HL.out]; omega)
                have hcode := code_w hG1 400 bs P.nw A' c' wc 400 (s.add P.nw hs) (Nat.lt_succ_self _) hBL HLC.out.1 hi1
                have hA : #[stV (P.one W.heap.size), Value.slice A' bs.length c', ptr ((P.one W.heap.size).wb P.nw)] = #[chV p 0 38 #[], Value.slice A' L c', ptr W.heap.size] := by
                  rw [SP.one_new, HL.out, ← hPp]
                  rfl
                unfold Gm.Then at hcode
                rw [hA] at hcode
                have hbl := HBOX.out.l.turn k1 (by simp)
                have hbl : Lies wc h2 27 (chC p 0 38 #[]) := by rw [← hPp]; exact hbl
                obtain ⟨c0, c1', c2'⟩ : wc.cell? ⟨h2, 0, none⟩ = some (ptr p) ∧ wc.cell? ⟨h2, 1, none⟩ = some (.int .i64 0) ∧ wc.cell? ⟨h2, 2, none⟩ = some (.func (.func 38) #[] #[]) := ⟨hbl.cell 0, hbl.cell 1, hbl.cell 2⟩
                obtain ⟨R, hR⟩ : ∃ R, startS P.nw bs (s.add P.nw hs) = R := ⟨_, rfl⟩
                rw [hR] at hcode
                have HR := Lib.hid hR
                have HC := Lib.hid (And.intro hl (And.intro ho (And.intro hnew (And.intro hr hz))))
                clear hA hBL hR hl ho hnew hr hz hbl hPp hPB hPn hbe1 hcell
                go_wp2_with fail
                refine hcode.mono ?_
                rintro e W2 ⟨cv, rfl, ⟨hi2, hc2⟩, f2⟩
                have hcis : IsCode cv := (Gm.Code.at_P hG1 hc2).is
                have hn := newtask_any cv hcis W2
                clear hcode c0 c1' c2'
                go_wp2_with fail
                refine hn.mono ?_
                rintro e W3 ⟨rfl, hw3⟩
                obtain ⟨hl, ho, hnew, hr, hz⟩ := HC.out
                have hvc := HV.out.turns k1 (by simp)
                have hv2 : VRow W2 w1.heap.size 35 tv _ := hvc.frE hi1 f2 (by decide) (by decide) (by decide) (by decide) (.inl (by decide))
                have k3 : Turns [] W2 W3 := by rw [← hw3]; exact (Turns.refl _ _).alloc _
                have hv3 := hv2.turns k3 (by simp)
                have hB3 : w1.heap.size ≤ W3.heap.size := by
                  have := k1.size
                  have := f2.size
                  have := k3.size
                  omega
                have F := Lib.hid (fun tv' W4 (q1 : VRow W4 w1.heap.size 35 tv' ((List.range P.nw).map (fun i => ptr (ts i)) ++ [ptr W2.heap.size])) (q2 : Turns tv.ownBlock.toList W3 W4) => Ms.next (w0 := w1) (W4 := W4) (tv' := tv') HMK.out HP.out.2.1 HP.out.2.2.1 HP.out.2.2.2 HBOX.out HV.out HINV.out hbe k1 hl hnew (by rw [HP.out.2.1]; exact hr) hG1 hi1 bs (by rw [HL.out]; omega) f2 (by rw [HR.out]; exact hi2) (by rw [HR.out]; exact hc2) q1 (by rw [hw3]; exact q2))
                have hvl : ((List.range P.nw).map fun i => ptr (ts i)).length = P.nw := by simp
                have HVL := Lib.hid hvl
                have ht5 : P.nw ≤ 5 := by omega
                clear hw3 hn hi2 hc2 f2 hi1 hl ho hnew hr hz hvc hv2 k3 hvl hcis
                generalize hvals : ((List.range P.nw).map fun i => ptr (ts i)) = vals at *
                clear hvals
                go_wp2_with (first | (at_builtin; refine wpList_vrow (T := 48) (E := 35) (z := .pointer none) (u := ptr W2.heap.size) (nb := 8) Try.underlying48 (by kernel_rfl) (by omega) rfl rfl hv3 hB3 (by rw [HVL.out]; omega) (by rfl) (.tmp 66) (.tmp 72) rfl rfl rfl ?_; intro tv' W4 r1 r2) | fail)
                go_roundw
                case rel => exact ⟨P.nw + 1, by go_num, by omega, F.out _ _ r1 r2⟩
                case measure => simp [intOf]; omega
          · obtain rfl : t = n := by omega
            obtain ⟨P, ts, qs, s, mk, hPt, hPn, hPB, hPp, hbox, hv, hinv⟩ := hS.at_
            have hbe := hS.be
            subst hPt
            have hM := sm_ok P mk.good
            have hbwW := hBW.trans (hbe.mono hBW.size)
            have okw := hM.okw _ _ _ mk.si
            have hBs : P.B ≤ W.heap.size := okw.base
            obtain ⟨gA, gcp, htv, hcells⟩ : ∃ g cp, tv = .slice (some ⟨g, 0, none⟩) P.nw cp ∧ (∀ i, i < P.nw → W.cell? ⟨g, i, none⟩ = some (ptr (ts i))) ∧ ∃ cur, Lies W g 35 cur := by
              obtain ⟨A0, c0, h1, _, h2⟩ := hv.slice
              have hl : ((List.range P.nw).map fun i => ptr (ts i)).length = P.nw := by simp
              rw [hl] at h1 h2
              obtain ⟨g, rfl, h3, h4⟩ := h2 (by omega)
              obtain ⟨_, cur, h5⟩ := hv.lies h3
              exact ⟨g, c0, h1, fun i hi => h4 i _ (by simp [hi]), cur, h5⟩
            obtain ⟨hcells, cur, hlg⟩ := hcells
            have hap := mk.si.apart_ty hlg (by decide) (by decide) (by decide) (by decide) (.inl (by decide))
            have hT : (SM P).TRow W (some ⟨gA, 0, none⟩) P.nw ts := ⟨by simp only [maxLen]; omega, mk.inj, fun _ => ⟨_, rfl, hlg.lt, hap.1, hap.2, fun i hi e => by
              obtain ⟨_, v, hl, _⟩ := mk.tk i hi
              exact hlg.unlike hl (by decide) e, fun i hi => by rw [Addr.add_mid, Nat.zero_add]; exact hcells i hi⟩⟩
            have hR : (SM P).RowX W P.nw ts PA np xs := ⟨hp.keep (Nat.le_refl _) hbwW, fun hn a ea => by
              obtain ⟨a', e', hlt, _⟩ := hp.at_ hn
              rw [ea] at e'
              injection e' with e'
              subst e'
              have h9 := hBW.size
              refine ⟨fun hm => ?_, fun q => ?_⟩
              · rcases List.mem_append.1 hm with h1 | h1
                · obtain ⟨i, hi, e⟩ := tsL_mem.1 h1
                  have := (mk.tk i hi).1
                  omega
                · have := hM.low _ h1
                  have : P.B ≤ a.block := this
                  omega
              · have := (okw.row _ q).1
                have : P.B ≤ a.block := this
                omega⟩
            have hAll : (SM P).All 400 P.nw ts ⟨s, qs, fun _ => 0, 0⟩ W := ⟨fun i hi => mk.task hi, mk.si⟩
            have hxl := hp.len
            have hrun := run_g (M := SM P) (f := 400) hM (some ⟨gA, 0, none⟩) PA P.nw gcp np pcp ts xs ⟨s, qs, fun _ => 0, 0⟩ W hT hR hAll (by omega) rfl (fun m hm i hi _ _ => (hinv.picks xs m (by omega)).w i hi) (fun i hi => by show 0 + np < _; omega)
            have hI9 := hinv.picks xs np (by omega)
            obtain ⟨i0, hi0⟩ : ∃ i0, who % P.nw = i0 := ⟨_, rfl⟩
            have hi0l : i0 < P.nw := by rw [← hi0]; exact Nat.mod_lt _ (by omega)
            have hmod2 : ((who : Int).tmod (P.nw : Int)) = (i0 : Int) := by rw [← hi0]; rw [Int.tmod_eq_emod_of_nonneg (by omega)]; omega
            have hwrw : IntKind.i64.wrap (who : Int) = who := by rw [IntKind.wrap_i64]; omega
            have hwri : IntKind.i64.wrap (i0 : Int) = i0 := by rw [IntKind.wrap_i64]; omega
            have hpd := picks_d (M := SM P) (N := P.nw) ⟨s, qs, fun _ => 0, 0⟩ xs i0 np (by omega)
            subst htv
            obtain ⟨cf, hcf⟩ : ∃ cf, (SM P).picks P.nw ⟨s, qs, fun _ => 0, 0⟩ xs np = cf := ⟨_, rfl⟩
            rw [hcf] at hrun hI9 hpd
            have hpd : cf.d i0 ≤ 0 + np := hpd
            have HI9 := Lib.hid hI9
            have HCF := Lib.hid hcf
            have HLG := Lib.hid (And.intro hlg hap)
            have HMK := Lib.hid mk
            have hgi := hcells i0 hi0l
            have hgts : gA ∉ tsL P.nw ts ++ P.L := fun hm => by
              rcases List.mem_append.1 hm with h1 | h1
              · obtain ⟨i, hi, e⟩ := tsL_mem.1 h1
                obtain ⟨_, v, hl, _⟩ := mk.tk i hi
                exact hlg.unlike hl (by decide) e.symm
              · exact hap.1 h1
            have hbelow : ∀ {W1 W2 : World} {r : Nat} {s : SSt} {L : List Nat}, SI P r s W1 → (∀ b, b ∈ L → b ∈ P.L ∨ P.B ≤ b) → Fr L P.ws W1 W2 → Below w1.heap.size W1 W2 := fun h1 h2 h3 => by
              rw [← hPB]
              exact SI.below mk.good h1 h2 h3
            have htsB : ∀ i, i < P.nw → P.B ≤ ts i := fun i hi => (mk.tk i hi).1
            clear hT hR hAll hcells mk hinv hbox hv hS hI9 hcf hlg
            go_wp2_with fail
            refine hrun.mono ?_
            rintro e W9 ⟨rfl, hra⟩
            have bW9 := hbelow HMK.out.si (L := tsL P.nw ts ++ P.L) (fun b hb => by
              rcases List.mem_append.1 hb with h1 | h1
              · obtain ⟨i, hi, rfl⟩ := tsL_mem.1 h1
                exact .inr (htsB i hi)
              · exact .inl h1) hra.fr
            have hg9 : W9.cell? ⟨gA, i0, none⟩ = some (ptr (ts i0)) := (hra.fr.cell (p := ⟨gA, i0, none⟩) HLG.out.1.lt hgts HLG.out.2.2).trans hgi
            have tk9 := hra.all.tk i0 hi0l
            have in9 := hra.all.inv
            rw [HCF.out] at tk9 in9
            have hfin := finish_g hM 72 (show 72 ≤ 400 - np by omega) tk9 in9 (fun i _ _ => W_run (HI9.out.w i0 hi0l) i) (by omega)
            rw [soon_run HI9.out.len (HI9.out.ok i0 hi0l) (by rw [HI9.out.j i0 hi0l]; exact HI9.out.hs i0 hi0l) (HI9.out.l i0 hi0l) (by omega)] at hfin
            have hb10 := fun W10 (f : Fr (ts i0 :: P.L) P.ws W9 W10) => hbelow in9 (L := ts i0 :: P.L) (fun b hb => by
              rcases List.mem_cons.1 hb with h1 | h1
              · rw [h1]; exact .inr (htsB i0 hi0l)
              · exact .inl h1) f
            have hsz9 := bW9.size
            clear hrun hra tk9 in9 hbelow htsB HCF HI9 HLG HMK hgi hgts hpd
            go_wp2_with fail
            refine (show Calls Try.prog 18 #[ptr (ts i0), .int .i64 72] _ _ from hfin).mono ?_
            rintro e W10 ⟨rfl, _, _, f10, _⟩
            have b10 := hb10 _ f10
            clear hfin hb10 f10
            go_wp2
            go_ret
            exact ⟨rfl, hbwW.trans ((bW9.trans b10).mono hBW.size)⟩

theorem soon8_nat (a : Int) (A : Option Addr) (n cp : Nat) (bss : List (List Bool)) (PA : Option Addr) (np pcp : Nat) (xs : List Int) (b : Int) (w : World) (ha : 0 ≤ a ∧ a < 256) (hb : 0 ≤ b ∧ b < 256) (hbss : bss.length = n) (hg : BGrid w A bss) (hp : Row w .i64 PA np xs) :
    Calls Try.prog 5 #[.int .u8 a, .slice A n cp, .slice PA np pcp, .int .u8 b] w fun e w' => e = .returned (.bool true) ∧ Below w.heap.size w w' := by
  obtain ⟨x, rfl⟩ := Int.eq_ofNat_of_zero_le ha.1
  obtain ⟨y, rfl⟩ := Int.eq_ofNat_of_zero_le hb.1
  exact soon8 x y (by omega) (by omega) A n cp bss hbss PA np pcp xs w hg hp

end Go.Proofs.Ythjbmaeoogophaa
