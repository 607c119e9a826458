/- Layer 8: the document's example. -/
import Derived.Test.YthjbmaeoogophaaU3
import Derived.ProofKit
import Derived.WalkKit
import Derived.Laws.MakeOwn
namespace Go.Proofs.Ythjbmaeoogophaa
open Go.RowKit
set_option maxRecDepth 100000

section
variable {P : SP} {r : Nat} {s : SSt} {W W' : World}
theorem SI.below (hG : P.Good) (h : SI P r s W) {L : List Nat} (hL : ∀ b, b ∈ L → b ∈ P.L ∨ P.B ≤ b) (f : Fr L P.ws W W') : Below P.B W W' :=
  f.below (fun b hb => by
    rcases hL b hb with h1 | h1
    · exact (sm_ok P hG).low b h1
    · exact h1) (fun b hb => (h.rw hb).1) ((sm_ok P hG).okw _ _ _ h).base
theorem getA_zero (m : Nat) (i : Int) : getA (List.replicate m 0) i = 0 := by
  rcases hasA_cases (List.replicate m 0) i with h | ⟨k, rfl, h⟩
  · exact getA_out h
  · rw [getA_nat h]
    exact List.getElem_replicate _
theorem sok_zero (n : Nat) : SOk n (List.replicate (n + 1) 0) :=
  ⟨by simp, by rw [getA_zero]; exact ⟨by unfold N64; omega, by unfold hIx; omega⟩, fun i _ => by rw [getA_zero]; omega⟩
/-- bools that were just laid. -/
theorem BL.new {W : World} {g n : Nat} {bs : List Bool} {cs : Array Value} (h : Lies W g 4 cs) (hn : bs.length = n) (hc : ∀ i, i < n → cs[i]? = some (.bool (bs.getD i false))) (hm : n ≤ 100000) (h1 : g ∉ P.L ++ P.ex) (h2 : ¬ Rw P.ws W g) : BL P W (some ⟨g, 0, none⟩) bs := by
  subst hn
  refine ⟨hm, fun _ => ⟨_, rfl, h.lt, h1, h2, fun q => q.ne h (by decide), fun i hi => ?_⟩⟩
  rw [Addr.add_mid, Nat.zero_add, h.cell i]
  exact hc i hi
end

set_option maxHeartbeats 1000000 in
theorem speaks8_any (w : World) : Calls Try.prog 12 #[] w fun e w' => e = .returned (.bool true) ∧ Below w.heap.size w w' := by
  have hf := fresh8_any 3 (by omega) w
  have y2 := fun (a : Addr) (f : FuncId) (c : Array Value) (w : World) => run_store Try.prog w a (.func (.func f) #[] c) .plain rfl
  go_enter Try.func12, Try.ntmps12
  go_wp2_with fail
  refine (show Calls Try.prog 13 #[.int .i64 3] _ _ from hf).mono ?_
  rintro e w1 ⟨p, c, rfl, ha, hb, hc, hp⟩
  clear hf
  go_wp2_with fail
  have hz1 := ha.head.lt
  have hb1 := hb.size
  generalize hh : w1.heap.size = h1 at *
  obtain ⟨W6, hW6⟩ : ∃ W6, (((((w1.alloc (.cells #[.pointer (some ⟨p, 0, none⟩), .int .i64 0, .func (.func 38) #[] #[]] 27)).alloc (.cells #[.slice none 0 0] 31)).alloc (.cells #[.bool false, .bool false, .bool true, .bool true, .bool true] 4)).alloc (.cells #[.int .i64 2, .int .i64 1] 3)).alloc (.cells #[.slice (some ⟨h1 + 1 + 1 + 1, 0, none⟩) 2 2, .pointer (some ⟨h1 + 1, 0, none⟩), .bool false, .bool false, .bool false] 34)) = W6 := ⟨_, rfl⟩
  have k6 : Turns [] w1 W6 := by rw [← hW6]; exact (((((Turns.refl _ _).alloc _).alloc _).alloc _).alloc _).alloc _
  have l1 : Lies W6 (h1 + 1) 31 #[.slice none 0 0] := by rw [← hW6]; exact (((Lies.new_of _ _ (by simp [hh])).alloc _).alloc _).alloc _
  have l2 : Lies W6 (h1 + 1 + 1) 4 #[.bool false, .bool false, .bool true, .bool true, .bool true] := by rw [← hW6]; exact ((Lies.new_of _ _ (by simp [hh])).alloc _).alloc _
  have l3 : Lies W6 (h1 + 1 + 1 + 1) 3 #[.int .i64 2, .int .i64 1] := by rw [← hW6]; exact (Lies.new_of _ _ (by simp [hh])).alloc _
  have l4 : Lies W6 (h1 + 1 + 1 + 1 + 1) 34 #[.slice (some ⟨h1 + 1 + 1 + 1, 0, none⟩) 2 2, .pointer (some ⟨h1 + 1, 0, none⟩), .bool false, .bool false, .bool false] := by rw [← hW6]; exact Lies.new_of _ _ (by simp [hh])
  have ha6 := ha.turn k6 (by simp) (by simp)
  obtain ⟨P, hP⟩ : ∃ P, SP1 p c w.heap.size 3 (h1 + 1 + 1 + 1 + 1) (some (h1 + 1)) = P := ⟨_, rfl⟩
  have hG : P.Good := by
    rw [← hP]
    exact SP1.good (by omega) hc (by omega) (fun x hx => by injection hx with hx; subst hx; omega) (by omega) (by omega) (by omega)
  obtain ⟨s0, hs0⟩ : ∃ s0, SSt1 [0, 0, 0, 0] 0 [2, 1] [] false false false = s0 := ⟨_, rfl⟩
  have hI : SI P 60 s0 W6 := by
    rw [← hP, ← hs0]
    refine SI.one ha6 (by omega) (sok_zero 3) l4 ?_ (fun x hx => ?_) (by decide) (by simp)
    · exact ⟨rfl, .inr ⟨_, 2, _, rfl, by omega, l3, Nat.le_refl 2, by simp only [maxLen]; omega, rfl, rfl⟩⟩
    · injection hx with hx
      subst hx
      exact ⟨_, l1, World.ownsRow_nil _ _ _ _, fun b _ h => by cases h⟩
  have okw := (sm_ok P hG).okw _ _ _ hI
  have notin : ∀ x, x = h1 + 1 + 1 → x ∉ P.L ++ P.ex := fun x hx hm => by
    rw [← hP] at hm
    have hm := (List.mem_append.1 hm).resolve_right (by simp [SP1])
    rcases SP.L_mem.1 hm with h | h | ⟨j, _, h⟩ | ⟨j, _, h⟩
    · have h : x = p := h
      omega
    · have h : x = c := h
      omega
    · have h : h1 + 1 + 1 + 1 + 1 = x := h
      omega
    · injection h with h
      omega
  have hBL : BL P W6 (some ⟨h1 + 1 + 1, 0, none⟩) [false, false, true, true, true] := BL.new l2 (n := 5) rfl (fun i hi => by rcases (by omega : i = 0 ∨ i = 1 ∨ i = 2 ∨ i = 3 ∨ i = 4) with rfl | rfl | rfl | rfl | rfl <;> rfl) (by omega) (notin _ rfl) (fun h => by
    obtain ⟨_, cur, h2⟩ := hI.rw h
    exact h2.unlike l2 (by decide) rfl)
  have hcode := code_g hG 60 [false, false, true, true, true] 0 (some ⟨h1 + 1 + 1, 0, none⟩) 5 W6 60 s0 (by rw [← hP]; exact Nat.one_pos) hBL (by simp) hI
  have hA : #[stV P, Value.slice (some ⟨h1 + 1 + 1, 0, none⟩) [false, false, true, true, true].length 5, ptr (P.wb 0)] = #[chV p 0 38 #[], Value.slice (some ⟨h1 + 1 + 1, 0, none⟩) 5 5, ptr (h1 + 1 + 1 + 1 + 1)] := by rw [← hP]; rfl
  unfold Gm.Then at hcode
  rw [hA] at hcode
  obtain ⟨R, hR⟩ : ∃ R, startS 0 [false, false, true, true, true] s0 = R := ⟨_, rfl⟩
  rw [hR] at hcode
  have hg := go_speaks8 p c w.heap.size (h1 + 1 + 1 + 1 + 1) (h1 + 1)
  rw [hP, hs0, hR] at hg
  have hWR : (SM P).W R.1 R.2 := by rw [← hR]; exact W_start _ _ _
  have hend : (SM P).ended ((SM P).runN R.1 R.2 0 60).1 = true ∧ ((SM P).runN R.1 R.2 0 60).2.1.gt 0 = [2, 1, -1] := by
    obtain ⟨e1, e2⟩ := runN_go (M := SM P) 13 R.1 R.2 0
    have h13 : (SM P).ended ((SM P).runN R.1 R.2 0 13).1 = true := by
      rw [e1]
      show (match ((SM P).go 13 R).1.m with | .done => true | _ => false) = true
      rw [hg.1]
    have e := runN_end h13 47
    rw [show 13 + 47 = 60 by omega] at e
    rw [e, e2]
    exact ⟨e1 ▸ h13, hg.2⟩
  have gp : P.gp 0 = some (h1 + 1) ∧ P.nw = 1 ∧ P.B = w.heap.size := by rw [← hP]; exact ⟨rfl, rfl, rfl⟩
  have b6 : Below w.heap.size w W6 := hb.trans (k6.below (by simp) (by omega))
  have b7 := fun W' (f : Fr P.L P.ws W6 W') => hI.below hG (fun b hb => .inl hb) f
  rw [gp.2.2] at b7
  have HEND := Lib.hid hend
  have HGP := Lib.hid gp
  rw [hW6]
  clear hA hR hg hend gp hP hs0 hI hBL notin l1 l2 l3 l4 ha6 k6 hb ha okw hW6 hh hz1 hb1
  refine hcode.mono ?_
  rintro e w7 ⟨v, rfl, ⟨hi7, hc7⟩, f7⟩
  have hn := newtask_any v hc7.is w7
  go_wp2_with fail
  refine hn.mono ?_
  rintro e w8 ⟨rfl, hw8⟩
  have hM := sm_ok P hG
  have tk := Gm.Task.made hM (hM.okw _ _ _ hi7) hc7
  have k8 : Turns [] w7 (w7.alloc (.cells #[v, .int .i64 0] 89)) := (Turns.refl _ _).alloc _
  have hi8 := hM.made k8 hi7
  have b8 : Below w.heap.size w7 (w7.alloc (.cells #[v, .int .i64 0] 89)) := k8.below (by simp) (by have := (b7 _ f7).size; have := b6.size; omega)
  rw [hw8] at tk hi8 b8
  have hfin := finish_g hM 60 (Nat.le_refl _) tk hi8 (fun j _ _ => W_run hWR j) (by omega)
  rw [HEND.out.1] at hfin
  have b9 := fun W' (f : Fr (w7.heap.size :: P.L) P.ws w8 W') => SI.below hG hi8 (fun b hb => by
    rcases List.mem_cons.1 hb with h | h
    · right
      rw [HGP.out.2.2, h]
      have := (b7 _ f7).size
      have := b6.size
      omega
    · exact .inl h) f
  rw [HGP.out.2.2] at b9
  have b8 := (b6.trans (b7 _ f7)).trans b8
  clear hw8 tk hi8 hi7 hc7 hn hcode b6 b7 k8 f7
  go_wp2_with fail
  refine (show Calls Try.prog 18 #[ptr w7.heap.size, .int .i64 60] _ _ from hfin).mono ?_
  rintro e w9 ⟨rfl, _, hi9, f9, _⟩
  obtain ⟨x, hx, hox⟩ := SI.gt hi9 0 (h1 + 1) (by rw [HGP.out.2.1]; omega) HGP.out.1
  rw [HEND.out.2] at hox
  have b9 := b8.trans (b9 _ f9)
  have hrx : IRow w9 P.B x [2, 1, -1] := ⟨hox, by intro y hy; simp at hy; rcases hy with rfl | rfl | rfl <;> decide⟩
  obtain ⟨A, cx, rfl, hrw⟩ := hrx.row
  have c9 : w9.cell? ⟨h1 + 1, 0, none⟩ = some (.slice A 3 cx) := hx.cell 0
  have hlit := IRow.lit w9 (B := w.heap.size) [2, 1, -1] #[.int .i64 2, .int .i64 1, .int .i64 (-1)] rfl (by have := b9.size; omega) hrx.ints (by simp)
  obtain ⟨A', c', e', hrw'⟩ := hlit.row
  have bz : Below w9.heap.size w9 (w9.alloc (.cells #[.int .i64 2, .int .i64 1, .int .i64 (-1)] 3)) := (Below.refl _ _).alloc (Nat.le_refl _) _
  have hs := rsame_any A A' 3 cx c' [2, 1, -1] _ (hrw.keep (Nat.le_refl _) bz) hrw'
  injection e' with ea eb ec
  subst ea
  subst ec
  clear eb
  have b10 := b9.trans (bz.mono (by have := b9.size; omega))
  have hz := b10.size
  clear hfin hi9 f9 hx hox hrx hlit hrw hrw' HEND b8
  go_wp2_with fail
  refine hs.mono ?_
  rintro e w10 ⟨rfl, hz10⟩
  go_wp2
  go_ret
  exact ⟨rfl, b10.trans (hz10.mono hz)⟩

end Go.Proofs.Ythjbmaeoogophaa

/- Layer 8: what is put on, taken, and put back. -/
namespace Go.Proofs.Ythjbmaeoogophaa
open Go.RowKit

/-- the numbers from 0 to m - 1. -/
def upto (m : Nat) : List Int := (List.range m).map fun i : Nat => (i : Int)
theorem upto_succ (m : Nat) : upto (m + 1) = upto m ++ [(m : Int)] := by unfold upto; rw [List.range_succ, List.map_append]; rfl
theorem upto_length (m : Nat) : (upto m).length = m := by simp [upto]

section
variable {n : Nat}
theorem simA_false (l : List Bool) (hs ts : List Int) (i : Int) : simA (false :: l) (hs ++ [i]) ts = simA l hs (i :: ts) := by
  show (match (hs ++ [i]).getLast? with | none => simA l (hs ++ [i]) ts | some i' => simA l (hs ++ [i]).dropLast (i' :: ts)) = _
  rw [List.getLast?_concat, List.dropLast_concat]
theorem finds_false (l : List Bool) (hs ts : List Int) (i : Int) : finds (false :: l) (hs ++ [i]) ts = finds l hs (i :: ts) := by
  show (match (hs ++ [i]).getLast? with | none => finds l (hs ++ [i]) ts | some i' => finds l (hs ++ [i]).dropLast (i' :: ts)) = _
  rw [List.getLast?_concat, List.dropLast_concat]

/-- the last m things in hand are put on. -/
theorem put_on : ∀ (m : Nat) (hs xs ts : List Int), xs.length = m → simA (List.replicate m false) (hs ++ xs) ts = (hs, xs ++ ts) ∧ finds (List.replicate m false) (hs ++ xs) ts
  | 0, hs, xs, ts, h => by
    obtain rfl := List.length_eq_zero_iff.1 h
    rw [List.append_nil]
    exact ⟨rfl, trivial⟩
  | m + 1, hs, xs, ts, h => by
    have hne : xs ≠ [] := fun e => by rw [e] at h; cases h
    obtain ⟨ys, y, rfl⟩ : ∃ ys y, xs = ys ++ [y] := ⟨xs.dropLast, xs.getLast hne, (List.dropLast_concat_getLast hne).symm⟩
    have hl : ys.length = m := by simp at h; omega
    obtain ⟨e1, e2⟩ := put_on m hs ys (y :: ts) hl
    rw [List.replicate_succ, ← List.append_assoc, simA_false, finds_false]
    exact ⟨by rw [e1]; simp, e2⟩
/-- the first m things are taken. -/
theorem taken : ∀ (m : Nat) (hs xs ts : List Int), xs.length = m → simA (List.replicate m true) hs (xs ++ ts) = (hs ++ xs, ts) ∧ finds (List.replicate m true) hs (xs ++ ts)
  | 0, hs, xs, ts, h => by
    obtain rfl := List.length_eq_zero_iff.1 h
    rw [List.append_nil]
    exact ⟨rfl, trivial⟩
  | m + 1, hs, xs, ts, h => by
    cases xs with
    | nil => cases h
    | cons x xs =>
      have hl : xs.length = m := by simp at h; omega
      obtain ⟨e1, e2⟩ := taken m (hs ++ [x]) xs ts hl
      rw [List.replicate_succ]
      show simA (List.replicate m true) (hs ++ [x]) (xs ++ ts) = _ ∧ finds (List.replicate m true) (hs ++ [x]) (xs ++ ts)
      exact ⟨by rw [e1]; simp, e2⟩

/-- a stack without things; all are in hand. -/
theorem one_start (k : Nat) : One k (List.replicate (k + 1) 0) (upto k) [] := by
  refine ⟨sok_zero k, ?_, List.Perm.refl _⟩
  show hIx (getA (List.replicate (k + 1) 0) 0) = -1
  rw [getA_zero]
  unfold hIx
  omega
/-- StackBack's three tasks: all put on; the first m taken; put back. -/
theorem back_all (k m : Nat) (hm : m ≤ k) :
    (simA (List.replicate k false) (upto k) [] = ([], upto k) ∧ finds (List.replicate k false) (upto k) []) ∧
      (simA (List.replicate m true) [] (upto k) = ((upto k).take m, (upto k).drop m) ∧ finds (List.replicate m true) [] (upto k)) ∧
      (simA (List.replicate m false) ((upto k).take m) ((upto k).drop m) = ([], upto k) ∧ finds (List.replicate m false) ((upto k).take m) ((upto k).drop m)) := by
  have hl := upto_length k
  have ht : ((upto k).take m).length = m := by rw [List.length_take, hl]; omega
  have h1 := put_on k [] (upto k) [] hl
  have h2 := taken m [] ((upto k).take m) ((upto k).drop m) ht
  have h3 := put_on m [] ((upto k).take m) ((upto k).drop m) ht
  rw [List.take_append_drop] at h2 h3
  simp only [List.nil_append, List.append_nil] at h1 h2 h3
  exact ⟨h1, h2, h3⟩
end

end Go.Proofs.Ythjbmaeoogophaa

/- Slices of the call's own, one cell an element, whatever they have; bools among them. (Parted out of Q16.) -/
namespace Go.Proofs.Ythjbmaeoogophaa
open Go.RowKit Go.ChangeShapes Go.WideShapes

/-- the slice v, of the call's own from block B on, has the values vs, one cell each. -/
structure VRow (W : World) (B : Nat) (E : TypeId) (v : Value) (vs : List Value) : Prop where
  own : W.ownsRow B E 1 v vs.length vs
section
variable {W W' : World} {B : Nat} {E : TypeId} {v : Value} {vs : List Value}
theorem VRow.nil (W : World) (B : Nat) (E : TypeId) : VRow W B E (.slice none 0 0) [] := ⟨⟨rfl, .inl ⟨rfl, rfl⟩⟩⟩
theorem VRow.kept (h : VRow W B E v vs) (k : ∀ g, v.ownBlock = some g → W'.heap[g]? = W.heap[g]?) : VRow W' B E v vs := by
  refine ⟨⟨h.own.1, ?_⟩⟩
  rcases h.own.2 with h1 | ⟨g, cap, cur, h1, h2, h3, h4⟩
  · exact .inl h1
  · exact .inr ⟨g, cap, cur, h1, h2, (k g (by rw [h1]; rfl)).trans h3, h4⟩
theorem VRow.turns {L : List Nat} (h : VRow W B E v vs) (k : Turns L W W') (hL : ∀ g, v.ownBlock = some g → g ∉ L) : VRow W' B E v vs :=
  h.kept fun g hg => k.block g (h.own.lt g hg).2 (hL g hg)
theorem VRow.lies (h : VRow W B E v vs) {g : Nat} (hg : v.ownBlock = some g) : B ≤ g ∧ ∃ cur, Lies W g E cur := by
  rcases h.own.2 with ⟨rfl, _⟩ | ⟨g', cap, cur, rfl, h2, h3, _⟩
  · cases hg
  · simp [Value.ownBlock] at hg
    subst hg
    exact ⟨h2, cur, h3⟩
theorem VRow.slice (h : VRow W B E v vs) : ∃ A cp, v = .slice A vs.length cp ∧ vs.length ≤ maxLen ∧ (0 < vs.length → ∃ g, A = some ⟨g, 0, none⟩ ∧ v.ownBlock = some g ∧ ∀ i u, vs[i]? = some u → W.cell? ⟨g, i, none⟩ = some u) := by
  rcases h.own.2 with ⟨rfl, h0⟩ | ⟨g, cap, cur, rfl, h2, h3, h4, h5, _⟩
  · exact ⟨none, 0, by rw [h0], by simp [h0], fun hn => by omega⟩
  · refine ⟨_, _, rfl, by omega, fun hn => ⟨g, rfl, rfl, fun i u hu => ?_⟩⟩
    have := h.own.cells (g := g) rfl i u hu
    rwa [add_head4] at this

/-- one value more. -/
theorem wpList_vrow {T : TypeId} {z u : Value} {ops : Array Oper} {rest : List Oper} {o : Oper} {a : Act} {Q : Exit → Act → World → Prop} (hT : Try.prog.underlying T = some (.slice E)) {nb : Nat} (hinfo : (Try.prog.info? E).map (fun i => (i.zero, i.size, i.bytes)) = some (some z, 1, nb)) (hnb : nb ≤ 1000) (hz : z.cells.size = 1) (hu : u.oneCell' = true)
    (h : VRow W B E v vs) (hB : B ≤ W.heap.size) (hl : vs.length ≤ 10000) (hgd : Region.wanted o (yielded ops a.tmps) = true) (s x : Operand) (ho : o.op = .call { callee := .builtin .append, args := #[s, x], argTypes := #[T, T] })
    (hs : a.eval s = v) (hx : a.eval x = .slice (some ⟨W.heap.size, 0, none⟩) 1 1)
    (hK : ∀ v' w', VRow w' B E v' (vs ++ [u]) → Turns v.ownBlock.toList W w' → wpList Try.prog ops Q rest (a.put o.dst v') w') : wpList Try.prog ops Q (o :: rest) a (W.alloc (.cells #[u] E)) := by
  obtain ⟨i0, hi0, hz0, hz1, hz2⟩ := info_parts hinfo
  refine wpList_step fun K hK0 => ?_
  rw [if_pos hgd]
  refine wp_append_own _ s x T ho B E i0 _ 1 nb hT hi0 hz0 hz1 hz2 hz (by omega) v vs.length vs hs (h.own.alloc _) ⟨W.heap.size, 0, none⟩ 1 1 [u] hx rfl ?_ ?_ (by simp only [maxLen]; omega) (Nat.le_trans (Nat.mul_le_mul (show vs.length + 1 ≤ 10001 by omega) hnb) (by omega)) (by simp; omega) ?_
  · intro j y hy
    match j, hy with
    | 0, hy =>
      simp at hy
      subst hy
      simp [Addr.add]
  · intro y hy
    simp at hy
    subst hy
    exact hu
  · intro v' w' h1 h2 _
    refine hK0 _ _ (hK v' w' ⟨by simpa using h1⟩ ⟨h2.os, h2.tape, h2.output, ?_, fun k hk hn => ?_⟩)
    · have := h2.size
      simp at this
      omega
    · rw [h2.block k (by simp; omega) (fun e => hn (by rw [← e]; simp))]
      exact Below.heap_alloc W _ k hk
end


section
variable {W : World} {B : Nat} {E : TypeId} {v : Value} {vs : List Value}
/-- a slice that isn't nil, without elements. -/
theorem VRow.empty (W : World) (E : TypeId) (hB : B ≤ W.heap.size) : VRow (W.alloc (.cells #[] E)) B E (.slice (some ⟨W.heap.size, 0, none⟩) 0 0) [] :=
  ⟨⟨rfl, .inr ⟨W.heap.size, 0, #[], rfl, hB, heap_alloc_new W _, Nat.le_refl _, by simp [maxLen], rfl, rfl⟩⟩⟩
/-- bools of the call's own, as code() wants them. -/
theorem VRow.bl {P : SP} {bs : List Bool} (h : VRow W B 4 v (bs.map Value.bool)) (hn : bs.length ≤ 100000) (h1 : ∀ g, v.ownBlock = some g → g ∉ P.L ++ P.ex) (h2 : ∀ g, v.ownBlock = some g → ¬ Rw P.ws W g) : ∃ A cp, v = .slice A bs.length cp ∧ bs.length ≤ cp ∧ BL P W A bs := by
  rcases h.own.2 with ⟨rfl, h0⟩ | ⟨g, cap, cur, rfl, _, h3, h4, _⟩
  · rw [List.length_map] at h0
    exact ⟨none, 0, by rw [h0], by omega, hn, fun hp => by omega⟩
  · rw [List.length_map] at h4 ⊢
    have hl : Lies W g 4 cur := h3
    refine ⟨_, cap, rfl, h4, BL.new (n := bs.length) hl rfl (fun i hi => ?_) hn (h1 g rfl) (h2 g rfl)⟩
    have := h.own.cells (g := g) rfl i (.bool (bs.getD i false)) (by simp [List.getD, hi])
    rw [add_head4, hl.cell i] at this
    exact this
end

end Go.Proofs.Ythjbmaeoogophaa

/- Layer 8: what the law writes of its own leaves the state as it is. -/
namespace Go.Proofs.Ythjbmaeoogophaa
open Go.RowKit
set_option maxRecDepth 100000

section
variable {P : SP} {r : Nat} {s : SSt} {W W' : World} {K : List Nat}
/-- a block of a type that the state has not is apart from it. -/
theorem SI.apart_ty (h : SI P r s W) {g : Nat} {t : TypeId} {cs : Array Value} (l : Lies W g t cs) (h1 : t ≠ 101) (h2 : t ≠ 111) (h3 : t ≠ 34) (h4 : t ≠ 3) (h5 : t ≠ 31 ∨ ∀ j, j < P.nw → P.gp j = none) : g ∉ P.L ∧ ¬ Rw P.ws W g := by
  refine ⟨fun hm => ?_, fun hr => ?_⟩
  · rcases SP.L_mem.1 hm with rfl | rfl | ⟨j, hj, rfl⟩ | ⟨j, hj, hg⟩
    · exact l.unlike h.ar.head h1 rfl
    · exact l.unlike h.ar.body h2 rfl
    · obtain ⟨v, hl, _⟩ := h.wk j hj
      exact l.unlike hl h3 rfl
    · obtain ⟨v, hl, _⟩ := h.gt j g hj hg
      rcases h5 with h5 | h5
      · exact l.unlike hl h5 rfl
      · rw [h5 j hj] at hg
        cases hg
  · obtain ⟨_, cur, hl⟩ := h.rw hr
    exact l.unlike hl h4 rfl
theorem SI.bools (h : SI P r s W) {g : Nat} {cs : Array Value} (l : Lies W g 4 cs) : g ∉ P.L ∧ ¬ Rw P.ws W g := h.apart_ty l (by decide) (by decide) (by decide) (by decide) (.inl (by decide))
theorem SI.turns (h : SI P r s W) (t : Turns K W W') (hK : ∀ b, b ∈ K → b ∉ P.L ∧ ¬ Rw P.ws W b) : SI P r s W' :=
  h.keep (fun b hb hm => t.block b hb fun hk => by
    rcases hm with h1 | h1
    · exact (hK b hk).1 h1
    · exact (hK b hk).2 h1) t.size
/-- the cells that tell rows are as they were, and so are the rows. -/
theorem SI.rows_turns (hG : P.Good) (h : SI P r s W) (t : Turns K W W') (hK : ∀ b, b ∈ K → b ∉ P.L) {b : Nat} (q : Rw P.ws W' b) : Rw P.ws W b :=
  q.same fun x hx => t.cell (h.block_lt hx) fun hk => hK _ hk ((sm_ok P hG).cells x hx)
theorem Gm.Bx.turns (hG : P.Good) (h : SI P r s W) {b : Nat} {t : TypeId} {cs : Array Value} (x : (SM P).Bx W b t cs) (k : Turns K W W') (hK : ∀ c, c ∈ K → c ∉ P.L) (hb : b ∉ K) : (SM P).Bx W' b t cs :=
  ⟨x.l.turn k hb, x.out, fun q => x.row (SI.rows_turns hG h k hK q), x.ty, x.outX⟩
/-- a slice of bools of the law's own, behind what the machine wrote. -/
theorem VRow.fr {B : Nat} {v : Value} {vs : List Value} (h : SI P r s W) (x : VRow W B 4 v vs) (f : Fr P.L P.ws W W') : VRow W' B 4 v vs :=
  x.kept fun g hg => by
    obtain ⟨_, cur, hl⟩ := x.lies hg
    exact f.block g hl.lt (h.bools hl).1 (h.bools hl).2
/-- the state, behind a bool that was appended. -/
theorem SI.vrow {B : Nat} {v : Value} {vs : List Value} (h : SI P r s W) (x : VRow W B 4 v vs) (t : Turns v.ownBlock.toList W W') : SI P r s W' :=
  h.turns t fun b hb => by
    obtain ⟨_, cur, hl⟩ := x.lies (g := b) (by simpa using hb)
    exact h.bools hl
end

end Go.Proofs.Ythjbmaeoogophaa

/- Layer 8: StackBack's two first loops: what holds there. -/
namespace Go.Proofs.Ythjbmaeoogophaa
open Go.RowKit
set_option maxRecDepth 100000

/-- while the worker's hands are filled. -/
structure Fill (w0 : World) (P : SP) (bx B0 k m : Nat) (gt : Nat) (pv : Value) (W : World) : Prop where
  si : ∃ s, SI P 600 s W ∧ s.hs 0 = upto m ∧ s.l = List.replicate (k + 1) 0 ∧ s.wr 0 = false ∧ s.k = 0
  box : (SM P).Bx W bx 27 (stC P)
  puts : VRow W B0 4 pv ((List.replicate m false).map Value.bool)
  there : Lies W gt 4 #[]
  two : pv.ownBlock ≠ some gt
  le : m ≤ k
  be : Below B0 w0 W

/-- while the Pops are counted out. -/
structure There (w0 : World) (P : SP) (bx B0 k m0 j : Nat) (pv tv : Value) (W : World) : Prop where
  si : ∃ s, SI P 600 s W ∧ s.hs 0 = upto k ∧ s.l = List.replicate (k + 1) 0 ∧ s.wr 0 = false ∧ s.k = 0
  box : (SM P).Bx W bx 27 (stC P)
  puts : VRow W B0 4 pv ((List.replicate k false).map Value.bool)
  there : VRow W B0 4 tv ((List.replicate j true).map Value.bool)
  two : ∀ g, pv.ownBlock = some g → tv.ownBlock ≠ some g
  le : j ≤ m0
  few : m0 ≤ k
  be : Below B0 w0 W
theorem There.next {w0 : World} {P : SP} {bx B0 k m0 j : Nat} {pv tv tv' : Value} {W W' : World} (hG : P.Good) (hB0 : B0 ≤ w0.heap.size) (h : There w0 P bx B0 k m0 j pv tv W) (hj : j < m0) (x : VRow W' B0 4 tv' ((List.replicate j true).map Value.bool ++ [.bool true])) (t : Turns tv.ownBlock.toList W W') : There w0 P bx B0 k m0 (j + 1) pv tv' W' := by
  obtain ⟨s, hi, hs⟩ := h.si
  have hK : ∀ b, b ∈ tv.ownBlock.toList → b ∉ P.L ∧ ¬ Rw P.ws W b := fun b hb => by
    obtain ⟨_, cur, hl⟩ := h.there.lies (g := b) (by simpa using hb)
    exact hi.bools hl
  have hp : VRow W' B0 4 pv ((List.replicate k false).map Value.bool) := h.puts.turns t fun g hg hk => h.two g hg (by simpa using hk)
  refine ⟨⟨s, hi.vrow h.there t, hs⟩, Gm.Bx.turns hG hi h.box t (fun b hb => (hK b hb).1) (fun hb => ?_), hp, ?_, fun g hg e => ?_, by omega, h.few, h.be.trans (t.below (fun b hb => (h.there.lies (by simpa using hb)).1) (Nat.le_trans hB0 h.be.size))⟩
  · obtain ⟨_, cur, hl⟩ := h.there.lies (g := bx) (by simpa using hb)
    exact hl.unlike h.box.l (by decide) rfl
  · rw [List.replicate_succ', List.map_append]
    exact x
  · have hk := h.few
    have c1 := hp.own.cells (g := g) hg 0 (.bool false) (by rw [List.getElem?_map, List.getElem?_replicate, if_pos (by omega)]; rfl)
    have c2 := x.own.cells (g := g) e 0 (.bool true) (by
      cases j with
      | zero => rfl
      | succ j => simp [List.replicate_succ])
    rw [c1] at c2
    injection c2 with c2
    injection c2 with c2
    cases c2

end Go.Proofs.Ythjbmaeoogophaa

/- Slices of slices. (Parted out of Q18.) -/
namespace Go.Proofs.Ythjbmaeoogophaa
open Go.RowKit Go.ChangeShapes Go.WideShapes

/-- where the first k of a slice lie, and the others. -/
theorem slice_to {t : TypeId} {e : TypeId} (ht : Try.prog.underlying t = some (.slice e)) (h1 : (Try.prog.info? e).map (·.size) = some 1) (A : Option Addr) (n cp k : Nat) (hk : k ≤ cp) (W : World) :
    (Instr.sliceAt t (.slice A n cp) none (some (.int .i64 (k : Int))) none).run Try.prog W = .ok (.slice (if cp = 0 then A else A.map (·.add 0)) k cp) W := by
  obtain ⟨i, hi, hz⟩ := Option.map_eq_some_iff.1 h1
  simp [Instr.sliceAt, Instr.slice, run_underlying ht, Instr.sliceBounds, Instr.sliceBound, asIntOf, sizeOf, typeInfo, hi]
  intro h; omega
theorem slice_from {t : TypeId} {e : TypeId} (ht : Try.prog.underlying t = some (.slice e)) (h1 : (Try.prog.info? e).map (·.size) = some 1) (A : Option Addr) (n cp k : Nat) (hk : k ≤ n) (W : World) :
    (Instr.sliceAt t (.slice A n cp) (some (.int .i64 (k : Int))) none none).run Try.prog W = .ok (.slice (if cp = k then A else A.map (·.add k)) (n - k) (cp - k)) W := by
  obtain ⟨i, hi, hz⟩ := Option.map_eq_some_iff.1 h1
  simp [Instr.sliceAt, Instr.slice, run_underlying ht, Instr.sliceBounds, Instr.sliceBound, asIntOf, sizeOf, typeInfo, hi, hz]
  intro h; omega

theorem add_zero' (a : Addr) : a.add 0 = a := by simp [Addr.add]
section
variable {w : World} {A : Option Addr} {n k cp : Nat} {xs : List Int}
theorem Row.take (h : Row w .i64 A n xs) (hk : k ≤ n) (A' : Option Addr) (hA : A' = (if cp = 0 then A else A.map (·.add 0))) : Row w .i64 A' k (xs.take k) := by
  have e : A' = A := by
    rw [hA]
    split
    · rfl
    · cases A <;> simp [add_zero']
  subst e
  have hl := h.len
  refine ⟨by simp; omega, by have := h.most; omega, fun x hx => h.wf x (List.mem_of_mem_take hx), fun hn => ?_⟩
  obtain ⟨a, e, h1, h2⟩ := h.at_ (by omega)
  refine ⟨a, e, h1, fun i hi => ?_⟩
  rw [h2 i (by omega)]
  simp [List.getD, hi]
theorem Row.drop (h : Row w .i64 A n xs) (hk : k ≤ n) (hcp : n ≤ cp) (A' : Option Addr) (hA : A' = (if cp = k then A else A.map (·.add k))) : Row w .i64 A' (n - k) (xs.drop k) := by
  have hl := h.len
  refine ⟨by simp; omega, by have := h.most; omega, fun x hx => h.wf x (List.mem_of_mem_drop hx), fun hn => ?_⟩
  obtain ⟨a, e, h1, h2⟩ := h.at_ (by omega)
  subst e
  rw [if_neg (by omega)] at hA
  refine ⟨a.add k, by rw [hA]; rfl, by rw [add_block]; exact h1, fun i hi => ?_⟩
  rw [Go.Deep.add_add, h2 (k + i) (by omega)]
  simp [List.getD, List.getElem?_drop]
end

end Go.Proofs.Ythjbmaeoogophaa

/- Layer 8: StackBack's last loop: what holds there. -/
namespace Go.Proofs.Ythjbmaeoogophaa
open Go.RowKit Go.ChangeShapes Go.WideShapes
set_option maxRecDepth 100000

theorem made_bools (n : Nat) : madeCells #[.bool false] n = ((List.replicate n false).map Value.bool).toArray := by
  apply Array.ext
  · simp [madeCells]
  · intro i h1 h2
    simp [madeCells, Nat.mod_one]
theorem make_bools (n : Nat) (hn : n ≤ 1048576) (W : World) :
    (Instr.makeSlice 22 (.int .i64 (n : Int)) (.int .i64 (n : Int))).run Try.prog W = .ok (.slice (some ⟨W.heap.size, 0, none⟩) n n) (W.alloc (.cells ((List.replicate n false).map Value.bool).toArray 4)) := by
  obtain ⟨i, hi, hz, hs, hb⟩ := info_parts (P := Try.prog) (t := 4) (z := .bool false) (s := 1) (b := 1) (by kernel_rfl)
  have hr := run_make (P := Try.prog) W 22 4 i _ Try.underlying22 hi hz .i64 .i64 n n (by omega) (by omega) (by rw [hb]; omega) (by omega)
  simp only [Int.toNat_natCast, hs, Nat.mul_one] at hr
  rw [hr, ← made_bools]
  rfl
theorem VRow.made (W : World) {B : Nat} (n : Nat) (hn : n ≤ 1000) (hB : B ≤ W.heap.size) : VRow (W.alloc (.cells ((List.replicate n false).map Value.bool).toArray 4)) B 4 (.slice (some ⟨W.heap.size, 0, none⟩) n n) ((List.replicate n false).map Value.bool) :=
  ⟨⟨by simp, .inr ⟨W.heap.size, n, _, by simp, hB, heap_alloc_new W _, by simp, by simp only [maxLen]; omega, by simp, by simp⟩⟩⟩

theorem Fr.past {L : List Nat} {ws : List Addr} {a w w' : World} {t : Nat} (h : Fr L ws a w) (k : Fr (t :: L) ws w w') (ht : a.heap.size ≤ t) : Fr L ws a w' :=
  ⟨k.os.trans h.os, k.tape.trans h.tape, k.output.trans h.output, Nat.le_trans h.size k.size,
   fun b hb hn hr => (k.block b (Nat.lt_of_lt_of_le hb h.size) (fun hm => by
     rcases List.mem_cons.1 hm with h1 | h1
     · omega
     · exact hn h1) (fun q => hr (h.rows b hb q))).trans (h.block b hb hn hr),
   fun b hb q => h.rows b hb (k.rows b (Nat.lt_of_lt_of_le hb h.size) q)⟩

section
variable {P : SP} {r B : Nat} {s : SSt} {W W' : World} {v : Value} {xs : List Int} {K : List Nat}
theorem SI.down {P : SP} {s : SSt} {W : World} (hG : P.Good) {r r' : Nat} (h : SI P r s W) (k : r' ≤ r) : SI P r' s W := by
  obtain ⟨d, rfl⟩ : ∃ d, r = r' + d := ⟨r - r', by omega⟩
  clear k
  induction d with
  | zero => exact h
  | succ d ih => exact ih ((sm_ok P hG).less _ _ _ h)

/-- a list that the stack told: the machine never writes it. -/
structure LRow (P : SP) (B : Nat) (v : Value) (xs : List Int) (W : World) : Prop where
  row : IRow W B v xs
  out : ∀ g, v.ownBlock = some g → g ∉ P.L ∧ ¬ Rw P.ws W g
theorem LRow.fr (h : LRow P B v xs W) (f : Fr P.L P.ws W W') : LRow P B v xs W' :=
  ⟨h.row.kept fun g hg => f.block g (h.row.lt g hg).2 (h.out g hg).1 (h.out g hg).2, fun g hg => ⟨(h.out g hg).1, f.row (h.row.lt g hg).2 (h.out g hg).2⟩⟩
theorem LRow.turns (hG : P.Good) (hi : SI P r s W) (h : LRow P B v xs W) (t : Turns K W W') (hK : ∀ b, b ∈ K → b ∉ P.L) (hn : ∀ g, v.ownBlock = some g → g ∉ K) : LRow P B v xs W' :=
  ⟨h.row.kept fun g hg => t.block g (h.row.lt g hg).2 (hn g hg), fun g hg => ⟨(h.out g hg).1, fun q => (h.out g hg).2 (SI.rows_turns hG hi t hK q)⟩⟩
theorem LRow.new (hG : P.Good) (hi : SI P r s W) (h : IRow W' W.heap.size v xs) (b : Below W.heap.size W W') (hB : B ≤ W.heap.size) : LRow P B v xs W' := by
  have t : Turns [] W W' := Turns.of_below b (Nat.le_refl _)
  refine ⟨h.less hB, fun g hg => ⟨fun hm => ?_, fun q => ?_⟩⟩
  · have h1 := (h.lt g hg).1
    have h2 := ((sm_ok P hG).okw _ _ _ hi).lt g hm
    omega
  · have h1 := (h.lt g hg).1
    obtain ⟨_, cur, hl⟩ := hi.rw (SI.rows_turns hG hi t (by simp) q)
    have := hl.lt
    omega
theorem VRow.frE {E : TypeId} {vs : List Value} (h : SI P r s W) (x : VRow W B E v vs) (f : Fr P.L P.ws W W') (h1 : E ≠ 101) (h2 : E ≠ 111) (h3 : E ≠ 34) (h4 : E ≠ 3) (h5 : E ≠ 31 ∨ ∀ j, j < P.nw → P.gp j = none) : VRow W' B E v vs :=
  x.kept fun g hg => by
    obtain ⟨_, cur, hl⟩ := x.lies hg
    have := h.apart_ty hl h1 h2 h3 h4 h5
    exact f.block g hl.lt this.1 this.2
end

/-- StackBack's three tasks: their acts; what is in hand, and what lies on the stack, ahead of each. -/
def bsAt (k m0 : Nat) : Nat → List Bool
  | 0 => List.replicate k false
  | 1 => List.replicate m0 true
  | _ => List.replicate m0 false
def hsAt (k m0 : Nat) : Nat → List Int
  | 0 => upto k
  | 2 => (upto k).take m0
  | _ => []
def tsAt (k m0 : Nat) : Nat → List Int
  | 0 => []
  | 2 => (upto k).drop m0
  | _ => upto k
theorem back_step {k m0 j : Nat} (hm : m0 ≤ k) (hj : j < 3) : simA (bsAt k m0 j) (hsAt k m0 j) (tsAt k m0 j) = (hsAt k m0 (j + 1), tsAt k m0 (j + 1)) ∧ finds (bsAt k m0 j) (hsAt k m0 j) (tsAt k m0 j) := by
  obtain ⟨h0, h1, h2⟩ := back_all k m0 hm
  rcases (by omega : j = 0 ∨ j = 1 ∨ j = 2) with rfl | rfl | rfl
  · exact h0
  · exact h1
  · exact h2
theorem bsAt_len {k m0 j : Nat} (hm : m0 ≤ k) : (bsAt k m0 j).length ≤ k := by
  unfold bsAt
  split <;> simp <;> omega
def slAt (pv tv kv : Value) : Nat → Value
  | 0 => pv
  | 1 => tv
  | _ => kv

/-- in StackBack's last loop: j tasks are through. -/
structure Bk (w0 : World) (P : SP) (bx B0 k m0 g3 : Nat) (pv tv kv : Value) (j : Nat) (lv : Value) (W : World) : Prop where
  si : ∃ s, SI P (200 * (3 - j)) s W ∧ One k s.l (s.hs 0) (tsAt k m0 j) ∧ s.hs 0 = hsAt k m0 j ∧ s.wr 0 = false
  box : (SM P).Bx W bx 27 (stC P)
  sl : ∀ i, i < 3 → VRow W B0 4 (slAt pv tv kv i) ((bsAt k m0 i).map Value.bool)
  all : Lies W g3 22 #[pv, tv, kv]
  lists : ∃ vs, VRow W B0 31 lv vs ∧ vs.length = j ∧ ∀ i u, vs[i]? = some u → LRow P B0 u (tsAt k m0 (i + 1)) W
  le : j ≤ 3
  be : Below B0 w0 W

theorem Bk.zero {w0 : World} {P : SP} {bx B0 k m0 : Nat} {pv tv : Value} {W : World} (hG : P.Good) (h : There w0 P bx B0 k m0 m0 pv tv W) (hB : B0 ≤ W.heap.size) (hm : m0 ≤ 1000) :
    Bk w0 P bx B0 k m0 (W.heap.size + 1 + 1) pv tv (.slice (some ⟨W.heap.size, 0, none⟩) m0 m0) 0 (.slice (some ⟨W.heap.size + 1, 0, none⟩) 0 0) (((W.alloc (.cells ((List.replicate m0 false).map Value.bool).toArray 4)).alloc (.cells #[] 31)).alloc (.cells #[pv, tv, .slice (some ⟨W.heap.size, 0, none⟩) m0 m0] 22)) := by
  obtain ⟨s, hi, e1, e2, e3, e4⟩ := h.si
  obtain ⟨X1, hX1⟩ : ∃ X1, W.alloc (.cells ((List.replicate m0 false).map Value.bool).toArray 4) = X1 := ⟨_, rfl⟩
  have v0 : VRow X1 B0 4 (.slice (some ⟨W.heap.size, 0, none⟩) m0 m0) ((List.replicate m0 false).map Value.bool) := by rw [← hX1]; exact VRow.made W m0 hm hB
  have k1 : Turns [] W X1 := by rw [← hX1]; exact (Turns.refl _ _).alloc _
  have z1 : X1.heap.size = W.heap.size + 1 := by rw [← hX1]; simp
  rw [hX1]
  obtain ⟨X2, hX2⟩ : ∃ X2, X1.alloc (.cells #[] 31) = X2 := ⟨_, rfl⟩
  have v1 : VRow X2 B0 31 (.slice (some ⟨W.heap.size + 1, 0, none⟩) 0 0) [] := by rw [← hX2, ← z1]; exact VRow.empty X1 31 (by omega)
  have k2 : Turns [] X1 X2 := by rw [← hX2]; exact (Turns.refl _ _).alloc _
  have z2 : X2.heap.size = W.heap.size + 1 + 1 := by rw [← hX2]; simp [z1]
  rw [hX2]
  have k3 : Turns [] X2 (X2.alloc (.cells #[pv, tv, .slice (some ⟨W.heap.size, 0, none⟩) m0 m0] 22)) := (Turns.refl _ _).alloc _
  have kk := (k1.trans k2).trans k3
  refine ⟨⟨s, hi.turns kk (by simp), ?_, e1, e3⟩, Gm.Bx.turns hG hi h.box kk (by simp) (by simp), fun i hi3 => ?_, Lies.new_of _ _ z2, ⟨[], v1.turns k3 (by simp), rfl, fun i u hu => by simp at hu⟩, by omega, h.be.trans (kk.below (by simp) hB)⟩
  · rw [e2, e1]; exact one_start k
  · rcases (by omega : i = 0 ∨ i = 1 ∨ i = 2) with rfl | rfl | rfl
    · exact h.puts.turns kk (by simp)
    · exact h.there.turns kk (by simp)
    · exact v0.turns (k2.trans k3) (by simp)

theorem Bk.next {w0 : World} {P : SP} {bx B0 k m0 g3 j : Nat} {pv tv kv lv lv' u : Value} {W W9 W10 W11 : World} {vs : List Value} {s' : SSt} (hG : P.Good) (hgp : ∀ j, j < P.nw → P.gp j = none) (hPB : B0 ≤ P.B) (h : Bk w0 P bx B0 k m0 g3 pv tv kv j lv W) (hj : j < 3) (hB : B0 ≤ W.heap.size)
    (f : Fr P.L P.ws W W9) (hi : SI P (200 * (3 - (j + 1))) s' W9) (ho : One k s'.l (s'.hs 0) (tsAt k m0 (j + 1))) (hh : s'.hs 0 = hsAt k m0 (j + 1)) (hw : s'.wr 0 = false)
    (b : Below W9.heap.size W9 W10) (hr : IRow W10 W9.heap.size u (tsAt k m0 (j + 1)))
    (hvs : VRow W B0 31 lv vs ∧ vs.length = j ∧ ∀ i u, vs[i]? = some u → LRow P B0 u (tsAt k m0 (i + 1)) W)
    (x : VRow W11 B0 31 lv' (vs ++ [u])) (t : Turns lv.ownBlock.toList W10 W11) : Bk w0 P bx B0 k m0 g3 pv tv kv (j + 1) lv' W11 := by
  obtain ⟨s, hi0, _⟩ := h.si
  have ap : ∀ {X : World} {r : Nat} {sx : SSt} {g : Nat} {cs : Array Value}, SI P r sx X → Lies X g 31 cs → g ∉ P.L ∧ ¬ Rw P.ws X g := fun h1 h2 => h1.apart_ty h2 (by decide) (by decide) (by decide) (by decide) (.inr hgp)
  have ab : ∀ {X : World} {r : Nat} {sx : SSt} {g : Nat} {cs : Array Value}, SI P r sx X → Lies X g 22 cs → g ∉ P.L ∧ ¬ Rw P.ws X g := fun h1 h2 => h1.apart_ty h2 (by decide) (by decide) (by decide) (by decide) (.inl (by decide))
  have t10 : Turns [] W9 W10 := Turns.of_below b (Nat.le_refl _)
  have hl9 : VRow W9 B0 31 lv vs := hvs.1.frE hi0 f (by decide) (by decide) (by decide) (by decide) (.inr hgp)
  have hl10 := hl9.turns t10 (by simp)
  have hi10 := hi.turns t10 (by simp)
  have hK : ∀ b, b ∈ lv.ownBlock.toList → b ∉ P.L ∧ ¬ Rw P.ws W10 b := fun b hb => by
    obtain ⟨_, cur, hl⟩ := hl10.lies (g := b) (by simpa using hb)
    exact ap hi10 hl
  have nL : ∀ {g : Nat} {ty : TypeId} {cs : Array Value}, Lies W10 g ty cs → ty ≠ 31 → g ∉ lv.ownBlock.toList := fun hl hne hm => by
    obtain ⟨_, cur, hl2⟩ := hl10.lies (g := _) (by simpa using hm)
    exact hl.unlike hl2 hne rfl
  have f10 : Fr P.L P.ws W W10 := f.trans (((sm_ok P hG).okw _ _ _ hi).fr (sm_ok P hG) t10)
  have box10 := h.box.mv f10.mv
  have irow : ∀ {g : Nat} {v : Value} {xs : List Int}, IRow W10 B0 v xs → v.ownBlock = some g → g ∉ lv.ownBlock.toList := fun hr hg => by
    rcases hr.own.2 with ⟨rfl, _⟩ | ⟨g', cap, cur, rfl, _, hb, _⟩
    · cases hg
    · simp [Value.ownBlock] at hg
      subst hg
      exact nL (ty := 3) hb (by decide)
  refine ⟨⟨s', hi10.turns t hK, ho, hh, hw⟩, Gm.Bx.turns hG hi10 box10 t (fun b hb => (hK b hb).1) (nL box10.l (by decide)), fun i hi3 => ?_, ?_, ⟨vs ++ [u], x, by simp [hvs.2.1], fun i y hy => ?_⟩, by omega, ?_⟩
  · have h1 := (h.sl i hi3).fr hi0 f10
    refine h1.turns t fun g hg => ?_
    obtain ⟨_, cur, hl⟩ := h1.lies hg
    exact nL hl (by decide)
  · have h1 := f10.lies h.all (ab hi0 h.all).1 (ab hi0 h.all).2
    exact h1.turn t (nL h1 (by decide))
  · by_cases hy2 : i < vs.length
    · rw [List.getElem?_append_left hy2] at hy
      have h1 := (hvs.2.2 i y hy).fr f10
      exact h1.turns hG hi10 t (fun b hb => (hK b hb).1) (fun g hg => irow h1.row hg)
    · rw [List.getElem?_append_right (by omega)] at hy
      have hi0' : i = vs.length := by
        rcases Nat.lt_or_ge vs.length i with h1 | h1
        · rw [List.getElem?_eq_none (by simp; omega)] at hy; cases hy
        · omega
      rw [hi0', Nat.sub_self] at hy
      simp at hy
      subst hy
      have h1 : LRow P B0 u (tsAt k m0 (j + 1)) W10 := LRow.new hG hi hr b (Nat.le_trans hB f.size)
      rw [hi0', hvs.2.1]
      exact h1.turns hG hi10 t (fun b hb => (hK b hb).1) (fun g hg => irow h1.row hg)
  · have s9 := Nat.le_trans hB f.size
    exact ((h.be.trans ((hi0.below hG (fun b hb => .inl hb) f).mono hPB)).trans (b.mono s9)).trans (t.below (fun b hb => (hl10.lies (by simpa using hb)).1) (Nat.le_trans s9 b.size))

theorem ints_info8 : (Try.prog.info? 31).map (fun i => (i.zero, i.size, i.bytes)) = some (some (.slice none 0 0), 1, 24) := by kernel_rfl

end Go.Proofs.Ythjbmaeoogophaa

/- Layer 8: StackBack. -/
namespace Go.Proofs.Ythjbmaeoogophaa
open Go.RowKit
set_option maxRecDepth 100000

set_option maxHeartbeats 1000000 in
theorem back8 (nn mm : Nat) (hnn : nn < 256) (hmm : mm < 256) (w : World) :
    Calls Try.prog 6 #[.int .u8 nn, .int .u8 mm] w fun e w' => e = .returned (.bool true) ∧ Below w.heap.size w w' := by
  obtain ⟨k, hk⟩ : ∃ k, nn % 30 = k := ⟨_, rfl⟩
  have hk30 : k < 30 := by omega
  have hmod : ((nn : Int).tmod 30) = (k : Int) := by rw [← hk]; rw [Int.tmod_eq_emod_of_nonneg (by omega)]; omega
  have hwr : IntKind.i64.wrap (nn : Int) = nn := by rw [IntKind.wrap_i64]; omega
  have hwk : IntKind.i64.wrap (k : Int) = k := by rw [IntKind.wrap_i64]; omega
  go_enter Try.func6, Try.ntmps6
  go_wp2_with fail
  refine (speaks8_any _).mono ?_
  rintro e w1 ⟨rfl, b1⟩
  go_wp2_with fail
  refine (fresh8_any k (by omega) w1).mono ?_
  rintro e w2 ⟨p, c, rfl, ha, b2, hc, hp⟩
  have y2 := fun (a : Addr) (f : FuncId) (c : Array Value) (w : World) => run_store Try.prog w a (.func (.func f) #[] c) .plain rfl
  go_wp2_with fail
  clear y2
  have hz1 := ha.head.lt
  have hb2 := b2.size
  generalize hh : w2.heap.size = h2 at *
  obtain ⟨W4, hW4⟩ : ∃ W4, ((w2.alloc (.cells #[.pointer (some ⟨p, 0, none⟩), .int .i64 0, .func (.func 38) #[] #[]] 27)).alloc (.cells #[.slice none 0 0, .pointer none, .bool false, .bool true, .bool false] 34)) = W4 := ⟨_, rfl⟩
  have k4 : Turns [] w2 W4 := by rw [← hW4]; exact ((Turns.refl _ _).alloc _).alloc _
  have l1 : Lies W4 h2 27 #[.pointer (some ⟨p, 0, none⟩), .int .i64 0, .func (.func 38) #[] #[]] := by rw [← hW4]; exact (Lies.new_of _ _ (by simp [hh])).alloc _
  have l2 : Lies W4 (h2 + 1) 34 #[.slice none 0 0, .pointer none, .bool false, .bool true, .bool false] := by rw [← hW4]; exact Lies.new_of _ _ (by simp [hh])
  have ha4 := ha.turn k4 (by simp) (by simp)
  obtain ⟨P, hP⟩ : ∃ P, SP1 p c w1.heap.size k (h2 + 1) none = P := ⟨_, rfl⟩
  have hG : P.Good := by
    rw [← hP]
    exact SP1.good (by omega) hc (by omega) (fun x hx => by cases hx) (by omega) (by omega) (by omega)
  have hI : SI P 600 (SSt1 (List.replicate (k + 1) 0) 0 [] [] false true false) W4 := by
    rw [← hP]
    exact SI.one ha4 (by omega) (sok_zero k) l2 (World.ownsRow_nil _ _ _ _) (fun x hx => by cases hx) (by simp) (by simp)
  have gp : P.nw = 1 ∧ P.B = w1.heap.size ∧ P.n = k ∧ P.p = p ∧ P.c = c ∧ P.wb 0 = h2 + 1 ∧ P.gp 0 = none := by rw [← hP]; exact ⟨rfl, rfl, rfl, rfl, rfl, rfl, rfl⟩
  have hbx : (SM P).Bx W4 h2 27 (stC P) := by
    refine ⟨by unfold stC; rw [gp.2.2.2.1]; exact l1, fun hm => ?_, fun h => ?_, by decide, fun hm => ?_⟩
    · rw [← hP] at hm
      rcases SP.L_mem.1 hm with h | h | ⟨j, _, h⟩ | ⟨j, _, h⟩
      · have h : h2 = p := h
        omega
      · have h : h2 = c := h
        omega
      · have h : h2 + 1 = h2 := h
        omega
      · cases h
    · obtain ⟨_, cur, h3⟩ := hI.rw h
      exact h3.unlike l1 (by decide) rfl
    · rw [← hP] at hm; cases hm
  have HGP := Lib.hid gp
  have HEX : Hid (P.ex = []) := Lib.hid (by rw [← hP]; rfl)
  obtain ⟨W6, hW6⟩ : ∃ W6, (W4.alloc (.cells #[] 4)).alloc (.cells #[] 4) = W6 := ⟨_, rfl⟩
  have hz4 : W4.heap.size = h2 + 2 := by rw [← hW4]; simp [hh]
  have k6 : Turns [] W4 W6 := by rw [← hW6]; exact ((Turns.refl _ _).alloc _).alloc _
  have v1 : VRow W6 w1.heap.size 4 (.slice (some ⟨h2 + 1 + 1, 0, none⟩) 0 0) [] := by
    have h := VRow.empty (B := w1.heap.size) W4 4 (by omega)
    rw [hz4] at h
    rw [← hW6]
    exact h.turns ((Turns.refl [] _).alloc _) (by simp)
  have v2 : Lies W6 (h2 + 1 + 1 + 1) 4 #[] := by rw [← hW6]; exact Lies.new_of _ _ (by simp [hz4])
  have hI := hI.turns k6 (by simp)
  have hbx := hbx.mv (((sm_ok P hG).okw _ _ _ (SI.tasks (Mv.refl _ _ _ _) (by assumption : SI P 600 _ W4))).mv (sm_ok P hG) k6)
  have hF : Fill w1 P h2 w1.heap.size k 0 (h2 + 1 + 1 + 1) (.slice (some ⟨h2 + 1 + 1, 0, none⟩) 0 0) W6 := ⟨⟨_, hI, rfl, rfl, rfl, rfl⟩, hbx, v1, v2, by simp [Value.ownBlock], Nat.zero_le _, (b2.trans (k4.below (by simp) (by omega))).trans (k6.below (by simp) (by omega))⟩
  rw [hW4, hW6]
  clear hW4 hW6 k4 k6 l1 l2 ha ha4 hP hI hbx gp hh hz1 hb2 b2 hk hmod hwr v1 v2 hz4
  go_loopw [9, 11, 34] (fun pv _ i W => ∃ m : Nat, i = .int .i64 (m : Int) ∧ Fill w1 P h2 w1.heap.size k m (h2 + 1 + 1 + 1) pv W) (fun _ _ i _ => k - (intOf i).toNat)
  case atStart => exact ⟨0, rfl, hF⟩
  case round =>
    clear hF
    obtain ⟨m, rfl, hF⟩ := hrel
    generalize wr = W at *
    generalize u9 = pv at *
    by_cases hm : m < k
    · obtain ⟨⟨s, hi, e1, e2, e3, e4⟩, hbx, hpv, htv, htwo, _, hbe⟩ := hF
      obtain ⟨v, hl, ho⟩ := hi.wk 0 (by rw [HGP.out.1]; omega)
      have h1w : P.wb 0 = h2 + 1 := HGP.out.2.2.2.2.2.1
      have hj0 : 0 < P.nw := by rw [HGP.out.1]; omega
      have hlen : (s.hs 0).length = m := by rw [e1, upto_length]
      rw [h1w] at hl
      have d0 : W.cell? ⟨h2 + 1, 0, none⟩ = some v := hl.cell 0
      have tuW : Turns [] W (W.alloc (.cells #[.int .i64 (m : Int)] 3)) := (Turns.refl [] _).alloc _
      have hiW := SI.tasks (Mv.of_turns tuW (by simp) (fun x hx => by cases hx)) hi
      have frW := ((sm_ok P hG).okw _ _ _ hi).fr (sm_ok P hG) tuW
      have cW := (tuW.cell (p := ⟨h2 + 1, 0, none⟩) hl.lt (by simp)).trans d0
      have fW : (W.alloc (.cells #[.int .i64 (m : Int)] 3)).frozen? ⟨h2 + 1, 0, none⟩ = false := (hl.turn tuW (by simp)).frozen 0
      have lt2 := hl.lt
      have n2 := own_ne ho hl (by decide)
      have hbase : P.B ≤ W.heap.size := ((sm_ok P hG).okw _ _ _ hi).base
      have F : ∀ g cap w9, w9.ownsRow P.B 3 1 (.slice (some ⟨g, 0, none⟩) ((s.hs 0).length + 1) cap) ((s.hs 0).length + 1) (intVs (s.hs 0) ++ [.int .i64 (m : Int)]) → (W.alloc (.cells #[.int .i64 (m : Int)] 3)).grownBy w9 v.ownBlock → (v.ownBlock = some g ∨ g = W.heap.size + 1) →
          ∃ s', SI P 600 s' (w9.setCell ⟨h2 + 1, 0, none⟩ (.slice (some ⟨g, 0, none⟩) ((s.hs 0).length + 1) cap)) ∧ (s'.hs 0 = upto (m + 1) ∧ s'.l = List.replicate (k + 1) 0 ∧ s'.wr 0 = false ∧ s'.k = 0) ∧ Fr P.L P.ws W (w9.setCell ⟨h2 + 1, 0, none⟩ (.slice (some ⟨g, 0, none⟩) ((s.hs 0).length + 1) cap)) := by
        intro g cap w9 q1 q2 q3
        have hc1 : (W.alloc (.cells #[.int .i64 (m : Int)] 3)).cell? ⟨P.wb 0, 0, none⟩ = some v := by rw [h1w]; exact cW
        obtain ⟨a1, a2⟩ := hiW.app_h hG 0 hj0 hc1 q1 q2 q3 (by simp) ⟨by omega, by rw [HGP.out.2.2.1]; omega⟩ (by omega)
        rw [h1w] at a1 a2
        refine ⟨_, a1, ⟨?_, e2, e3, e4⟩, frW.trans a2⟩
        show updF s.hs 0 (s.hs 0 ++ [(m : Int)]) 0 = _
        rw [updF_same, e1, upto_succ]
      have F2 : ∀ s' W2 pv' W3, SI P 600 s' W2 → (s'.hs 0 = upto (m + 1) ∧ s'.l = List.replicate (k + 1) 0 ∧ s'.wr 0 = false ∧ s'.k = 0) → Fr P.L P.ws W W2 → VRow W3 w1.heap.size 4 pv' ((List.replicate m false).map Value.bool ++ [.bool false]) → Turns pv.ownBlock.toList W2 W3 → Fill w1 P h2 w1.heap.size k (m + 1) (h2 + 1 + 1 + 1) pv' W3 := by
        intro s' W2 pv' W3 q1 q2 q3 q4 q5
        have x2 := hpv.fr hi q3
        have z2 : Lies W2 (h2 + 1 + 1 + 1) 4 #[] := q3.lies htv (hi.bools htv).1 (hi.bools htv).2
        have nz : h2 + 1 + 1 + 1 ∉ pv.ownBlock.toList := fun hk => htwo (by simpa using hk)
        have z3 := z2.turn q5 nz
        have hK : ∀ b, b ∈ pv.ownBlock.toList → b ∉ P.L ∧ ¬ Rw P.ws W2 b := fun b hb => by
          obtain ⟨_, cur, hl⟩ := x2.lies (g := b) (by simpa using hb)
          exact q1.bools hl
        refine ⟨⟨s', q1.turns q5 hK, q2⟩, Gm.Bx.turns hG q1 (hbx.mv q3.mv) q5 (fun b hb => (hK b hb).1) (fun hb => ?_), ?_, z3, fun e => ?_, by omega, (hbe.trans ((hi.below hG (fun b hb => .inl hb) q3).mono (by have := HGP.out.2.1; omega))).trans (q5.below (fun b hb => (x2.lies (by simpa using hb)).1) (Nat.le_trans hbe.size q3.size))⟩
        · obtain ⟨_, cur, hl⟩ := x2.lies (g := h2) (by simpa using hb)
          exact hl.unlike (hbx.mv q3.mv).l (by decide) rfl
        · rw [List.replicate_succ', List.map_append]
          exact q4
        · obtain ⟨cap, he⟩ : ∃ cap, pv' = .slice (some ⟨h2 + 1 + 1 + 1, 0, none⟩) (m + 1) cap := by
            rcases q4.own.2 with ⟨rfl, _⟩ | ⟨g', cap, cur, rfl, _⟩
            · cases e
            · simp [Value.ownBlock] at e
              subst e
              exact ⟨cap, by simp⟩
          rcases q4.own.2 with ⟨h0, _⟩ | ⟨g', cap', cur, h0, _, hg, hn, _, hsz, _⟩
          · rw [h0] at he; cases he
          · rw [h0] at he
            injection he with he _ _
            injection he with he
            injection he with he _ _
            subst he
            have hz : Lies W3 (h2 + 1 + 1 + 1) 4 cur := hg
            unfold Lies at hz z3
            rw [z3] at hz
            injection hz with hz
            injection hz with hz
            subst hz
            simp at hn hsz
            omega
      have hnl : (s.hs 0).length < 1000 := by omega
      clear e1 e2 e3 e4 hlen hiW frW tuW h1w
      obtain ⟨i0, hi0, hz0, hz1, hz2⟩ := info_parts int_info8
      have hvl : ((List.replicate m false).map Value.bool).length = m := by simp
      have HVL := Lib.hid hvl
      clear hvl
      go_upto_region 13 with (first | (at_builtin; refine wpList_append_lies _ rfl (.tmp 41) (.tmp 43) 31 rfl P.B 3 i0 _ 1 8 Try.underlying31 hi0 hz0 hz1 hz2 rfl (by omega) v (s.hs 0).length (intVs (s.hs 0)) rfl (ho.alloc _) ⟨W.heap.size, 0, none⟩ 1 1 [.int .i64 (m : Int)] rfl rfl (World.news_of_block (cs := #[.int .i64 (m : Int)]) (t := 3) (fr := (0, 0)) (heap_alloc_new W _)) (by simp [Value.oneCell']) (by omega) (by simp only [maxLen]; omega) (by omega) (by simp; omega) (W.heap.size + 1) (by simp) ?_; intro gg cap w9 hown1 hgrow hat hlt; have p2 : w9.cell? ⟨h2 + 1, 0, none⟩ = some v := (hgrow.cell_far ⟨h2 + 1, 0, none⟩ (by simp; omega) n2).trans cW; have pf : w9.frozen? ⟨h2 + 1, 0, none⟩ = false := (hgrow.frozen_far ⟨h2 + 1, 0, none⟩ (by simp; omega) n2).trans fW) | fail)
      obtain ⟨s', q1, q2, q3⟩ := F _ _ _ hown1 hgrow hat
      have x2 := hpv.fr hi q3
      have hB2 : w1.heap.size ≤ (w9.setCell ⟨h2 + 1, 0, none⟩ (.slice (some ⟨gg, 0, none⟩) ((s.hs 0).length + 1) cap)).heap.size := by
        have h8 := q3.size
        have h9 := HGP.out.2.1
        omega
      have F3 := fun pv' W3 => F2 s' _ pv' W3 q1 q2 q3
      clear q1 q2 q3 F F2 hi hpv htv htwo hbx ho cW fW d0 hl hown1 hgrow p2 pf
      generalize w9.setCell ⟨h2 + 1, 0, none⟩ (.slice (some ⟨gg, 0, none⟩) ((s.hs 0).length + 1) cap) = W2 at *
      generalize hvs : (List.replicate m false).map Value.bool = vs at *
      have HVS := Lib.hid hvs
      clear hvs
      go_wp2_with (first | (at_builtin; refine wpList_vrow (T := 22) (E := 4) (z := .bool false) (u := .bool false) (nb := 1) Try.underlying22 (by kernel_rfl) (by omega) rfl rfl x2 hB2 (by rw [HVL.out]; omega) (by rfl) (.tmp 47) (.tmp 48) rfl rfl rfl ?_; intro pv' W3 r1 r2) | fail)
      go_roundw
      case rel => exact ⟨m + 1, by go_num, F3 _ _ r1 r2⟩
      case measure => simp [intOf]; omega
    · obtain ⟨⟨s, hi, e1, e2, e3, e4⟩, hbx, hpv, htv, htwo, hle, hbe⟩ := hF
      obtain rfl : m = k := by omega
      obtain ⟨m0, hm0⟩ : ∃ m0, min (mm % 30) m = m0 := ⟨_, rfl⟩
      have hmw : IntKind.i64.wrap (mm : Int) = mm := by rw [IntKind.wrap_i64]; omega
      have hmod2 : ((mm : Int).tmod 30) = ((mm % 30 : Nat) : Int) := by rw [Int.tmod_eq_emod_of_nonneg (by omega)]; omega
      have H0 := Lib.hid (And.intro e1 (And.intro e2 (And.intro e3 e4)))
      have HM0 := Lib.hid hm0
      clear e1 e2 e3 e4 hm0
      have hnlt : ¬ ((m : Int) < (m : Int)) := by omega
      generalize hr0 : mm % 30 = r0 at *
      have HR0 := Lib.hid hr0
      clear hr0
      go_upto_region 15 with (fail)
      go_cut [55, 56] (fun a b wc => a = .int .i64 (m0 : Int) ∧ b = .int .i64 0 ∧ W = wc)
      case first =>
        have h := HM0.out
        by_cases hq : (r0 : Int) < (m : Int)
        · obtain rfl : r0 = m0 := by omega
          clear h
          go_wp2_with fail
          go_meet
          case rel => exact ⟨rfl, rfl, rfl⟩
        · obtain rfl : m = m0 := by omega
          clear h
          go_wp2_with fail
          all_goals
            go_meet
            case rel => exact ⟨by first | rfl | (congr 1; omega), rfl, rfl⟩
      case rest =>
        obtain ⟨rfl, rfl, rfl⟩ := hcut
        have hT : There w1 P h2 w1.heap.size m m0 0 pv (.slice (some ⟨h2 + 1 + 1 + 1, 0, none⟩) 0 0) W := by
          refine ⟨⟨s, hi, H0.out⟩, hbx, hpv, ⟨⟨rfl, .inr ⟨_, 0, #[], rfl, ?_, htv, Nat.le_refl _, by simp [maxLen], rfl, rfl⟩⟩⟩, fun g hg e => ?_, Nat.zero_le _, by have := HM0.out; omega, hbe⟩
          · have h8 := hG.low.2.2.1 0 (by rw [HGP.out.1]; omega)
            have h9 := HGP.out
            omega
          · simp [Value.ownBlock] at e
            subst e
            exact htwo hg
        have hm030 : m0 < 30 := by have := HM0.out; omega
        clear hpv htv htwo hbx H0 hi hmod2 hmw hnlt
        go_wp2_with fail
        go_loopw [10, 56] (fun tv i W => ∃ j : Nat, i = .int .i64 (j : Int) ∧ There w1 P h2 w1.heap.size m m0 j pv tv W) (fun _ i _ => m0 - (intOf i).toNat)
        case atStart => exact ⟨0, rfl, hT⟩
        case round =>
          clear hT
          obtain ⟨j, rfl, hT⟩ := hrel
          generalize wr = W1 at *
          generalize u10 = tv at *
          by_cases hj : j < m0
          · have hB2 : w1.heap.size ≤ W1.heap.size := by
              obtain ⟨s1, h1, _⟩ := hT.si
              have h8 := ((sm_ok P hG).okw _ _ _ h1).base
              have h9 := HGP.out.2.1
              have h8 : P.B ≤ W1.heap.size := h8
              omega
            have hvl : ((List.replicate j true).map Value.bool).length = j := by simp
            have HVL := Lib.hid hvl
            have x2 := hT.there
            have F3 := fun tv' W3 => hT.next hG (Nat.le_refl _) hj (tv' := tv') (W' := W3)
            clear hvl hT
            generalize hvs : (List.replicate j true).map Value.bool = vs at *
            have HVS := Lib.hid hvs
            clear hvs
            go_wp2_with (first | (at_builtin; refine wpList_vrow (T := 22) (E := 4) (z := .bool false) (u := .bool true) (nb := 1) Try.underlying22 (by kernel_rfl) (by omega) rfl rfl x2 hB2 (by rw [HVL.out]; omega) (by rfl) (.tmp 58) (.tmp 59) rfl rfl rfl ?_; intro tv' W3 r1 r2) | fail)
            go_roundw
            case rel => exact ⟨j + 1, by go_num, F3 _ _ r1 r2⟩
            case measure => simp [intOf]; omega
          · have hle := hT.le
            obtain rfl : j = m0 := by omega
            obtain ⟨A1, c1, hpv⟩ : ∃ A c, pv = .slice A m c := by
              obtain ⟨A, c, h, _⟩ := hT.puts.slice
              exact ⟨A, c, by simpa using h⟩
            obtain ⟨A2, c2, htv⟩ : ∃ A c, tv = .slice A j c := by
              obtain ⟨A, c, h, _⟩ := hT.there.slice
              exact ⟨A, c, by simpa using h⟩
            have hB2 : w1.heap.size ≤ W1.heap.size := by
              obtain ⟨s1, h1, _⟩ := hT.si
              have h8 := ((sm_ok P hG).okw _ _ _ h1).base
              have h9 := HGP.out.2.1
              have h8 : P.B ≤ W1.heap.size := h8
              omega
            have hgp : ∀ j, j < P.nw → P.gp j = none := fun i hi => by
              have h9 := HGP.out
              obtain rfl : i = 0 := by omega
              exact h9.2.2.2.2.2.2
            have hz := Bk.zero hG hT hB2 (by omega)
            have hjm : j ≤ m := hT.few
            subst hpv
            subst htv
            have hmk := make_bools j (by omega)
            have hHG := Lib.hid hgp
            clear hT hgp
            obtain ⟨vs0, hvs0⟩ : ∃ vs0, ((List.replicate j false).map Value.bool).toArray = vs0 := ⟨_, rfl⟩
            rw [hvs0] at hz hmk
            clear hvs0
            go_upto_region 22 with (fail)
            obtain ⟨g3, hg3⟩ : ∃ g3, W1.heap.size + 1 + 1 = g3 := ⟨_, rfl⟩
            rw [hg3] at hz
            rw [hg3]
            generalize (((W1.alloc (.cells vs0 4)).alloc (.cells #[] 31)).alloc (.cells #[.slice A1 m c1, .slice A2 j c2, .slice (some ⟨W1.heap.size, 0, none⟩) j j] 22)) = X3 at *
            generalize (Value.slice (some ⟨W1.heap.size, 0, none⟩) j j) = kv at *
            clear hg3 hmk
            have hB3 : w1.heap.size ≤ X3.heap.size := by
              obtain ⟨s1, h1, _⟩ := hz.si
              have h8 := ((sm_ok P hG).okw _ _ _ h1).base
              have h9 := HGP.out.2.1
              have h8 : P.B ≤ X3.heap.size := h8
              omega
            have hgl := fun q => hz.all.cell q
            clear hHG
            go_loopw [13, 15, 16, 71] (fun lv _ _ i W => ∃ q : Nat, i = .int .i64 (q : Int) ∧ Bk w1 P h2 w1.heap.size m j g3 (.slice A1 m c1) (.slice A2 j c2) kv q lv W) (fun _ _ _ i _ => 3 - (intOf i).toNat)
            case atStart => exact ⟨0, rfl, hz⟩
            case round =>
              clear hz hgl
              obtain ⟨q, rfl, hK⟩ := hrel
              generalize wr = W at *
              generalize u13 = lv at *
              by_cases hq : q < 3
              · have hN := HGP.out
                have hM := sm_ok P hG
                have hj0 : 0 < P.nw := by omega
                obtain ⟨s, hi, hone, hhs, hwr⟩ := hK.si
                have okw := hM.okw _ _ _ hi
                have hBW : w1.heap.size ≤ W.heap.size := by have h8 : P.B ≤ W.heap.size := okw.base; omega
                obtain ⟨A, cp, hv, hcp, hBL⟩ := (hK.sl q hq).bl (P := P) (by have := bsAt_len (k := m) (m0 := j) (j := q) hjm; omega) (fun g hg => by
                  obtain ⟨_, cur, hl⟩ := (hK.sl q hq).lies hg
                  have := (hi.bools hl).1
                  intro hm
                  rcases List.mem_append.1 hm with h1 | h1
                  · exact this h1
                  · rw [HEX.out] at h1; cases h1) (fun g hg => by
                  obtain ⟨_, cur, hl⟩ := (hK.sl q hq).lies hg
                  exact (hi.bools hl).2)
                have hcell : W.cell? ⟨g3, q, none⟩ = some (.slice A (bsAt m j q).length cp) := by
                  rw [← hv, hK.all.cell q]
                  rcases (by omega : q = 0 ∨ q = 1 ∨ q = 2) with rfl | rfl | rfl <;> rfl
                have hlen := bsAt_len (k := m) (m0 := j) (j := q) hjm
                have hcode := code_g hG (200 * (3 - q)) (bsAt m j q) 0 A cp W (200 * (3 - q)) s hj0 hBL hcp hi
                obtain ⟨R, hR⟩ : ∃ R, startS 0 (bsAt m j q) s = R := ⟨_, rfl⟩
                have hWR : (SM P).W R.1 R.2 := by rw [← hR]; exact W_start _ _ _
                have hact := act_run (P := P) (j := 0) (n := m) (by omega) (bsAt m j q) s (tsAt m j q) hone 0 (6 * (bsAt m j q).length) (by omega)
                obtain ⟨hs1, hs2⟩ := back_step (k := m) (m0 := j) (j := q) hjm hq
                rw [hhs, hs1, hR, hwr] at hact
                rw [hR] at hcode
                obtain ⟨a1, a2, a3', a4⟩ := hact
                have a4 := a4 hs2
                obtain ⟨c0, c1', c2'⟩ : W.cell? ⟨h2, 0, none⟩ = some (ptr P.p) ∧ W.cell? ⟨h2, 1, none⟩ = some (.int .i64 0) ∧ W.cell? ⟨h2, 2, none⟩ = some (.func (.func 38) #[] #[]) := ⟨hK.box.l.cell 0, hK.box.l.cell 1, hK.box.l.cell 2⟩
                obtain ⟨L, hL⟩ : ∃ L, (bsAt m j q).length = L := ⟨_, rfl⟩
                rw [hL] at hcell hcode hcp hlen a1 a2 a3' a4
                have hA : #[stV P, Value.slice A L cp, ptr (P.wb 0)] = #[chV P.p 0 38 #[], Value.slice A L cp, ptr (h2 + 1)] := by rw [hN.2.2.2.2.2.1]
                unfold Gm.Then at hcode
                rw [hA] at hcode
                have HE := Lib.hid (And.intro a1 (And.intro a2 (And.intro a3' a4)))
                have HK := Lib.hid hK
                clear hA hR a1 a2 a3' a4 hone hhs hwr hs1 hs2 hBL hi hK hv hL okw hN
                go_upto_region 24 with (fail)
                go_wp2_with fail
                refine hcode.mono ?_
                rintro e w7 ⟨v, rfl, ⟨hi7, hc7⟩, f7⟩
                have hn := newtask_any v hc7.is w7
                go_wp2_with fail
                refine hn.mono ?_
                rintro e w8 ⟨rfl, hw8⟩
                have hM := sm_ok P hG
                have tk := Gm.Task.made hM (hM.okw _ _ _ hi7) hc7
                have k8 : Turns [] w7 (w7.alloc (.cells #[v, .int .i64 0] 89)) := (Turns.refl _ _).alloc _
                have hi8 := hM.made k8 hi7
                have f8 := (hM.okw _ _ _ hi7).fr hM k8
                rw [hw8] at tk hi8 f8
                have hfin := finish_g hM (6 * L) (by omega) tk hi8 (fun i _ _ => W_run hWR i) (by omega)
                rw [HE.out.1] at hfin
                have e6 : ((6 * L : Nat) : Int) = 6 * (L : Int) := by omega
                rw [e6] at hfin
                have hwL : IntKind.i64.wrap (6 * (L : Int)) = 6 * (L : Int) := by rw [IntKind.wrap_i64]; omega
                have f78 : Fr P.L P.ws W w8 := Fr.trans f7 f8
                have hsz := f7.size
                clear hw8 tk hi8 hi7 hc7 hn hcode k8 f8 f7 e6
                go_wp2_with fail
                refine hfin.mono ?_
                rintro e w9 ⟨rfl, _, hi9, f9, _⟩
                have F9 := f78.past f9 hsz
                have hi9 := SI.down hG hi9 (show 200 * (3 - (q + 1)) ≤ 200 * (3 - q) - 6 * L by omega)
                obtain ⟨s9, hs9⟩ : ∃ s9, ((SM P).runN R.1 R.2 0 (6 * L)).2.1 = s9 := ⟨_, rfl⟩
                have HE := HE.out
                rw [hs9] at hi9 HE
                obtain ⟨_, hone, hh9, hw9⟩ := HE
                have box9 := HK.out.box.mv F9.mv
                obtain ⟨c0, c1', c2'⟩ : w9.cell? ⟨h2, 0, none⟩ = some (ptr P.p) ∧ w9.cell? ⟨h2, 1, none⟩ = some (.int .i64 0) ∧ w9.cell? ⟨h2, 2, none⟩ = some (.func (.func 38) #[] #[]) := ⟨box9.l.cell 0, box9.l.cell 1, box9.l.cell 2⟩
                have hn1 : P.n = m := HGP.out.2.2.1
                have hdom := One.dom hone.ok (fun i => hi9.ar.fitA i) (by omega)
                have hlst := stlist_any P.p P.c 0 38 #[] (fun i => i + 1) s9.l s9.k w9 hi9.ar ent_link (by have := hone.ok.len; omega) (fun i => 0 ≤ i ∧ i < m) (fun i hi => by omega) hdom.1 hdom.2 (fun W i hi => (link_any i (by unfold Ix; omega) W).mono fun e w2 h => ⟨h.1, by rw [h.2]; exact Turns.refl _ _⟩)
                rw [hone.told (by omega)] at hlst
                obtain ⟨vs, hvs⟩ := HK.out.lists
                have hB9 : w1.heap.size ≤ w9.heap.size := Nat.le_trans hBW F9.size
                have HN := Lib.hid (fun w10 u lv' W11 (b : Below w9.heap.size w9 w10) hr x t => HK.out.next (W10 := w10) (W11 := W11) (u := u) (lv' := lv') hG (fun i hi => by
                  have h9 := HGP.out
                  obtain rfl : i = 0 := by omega
                  exact h9.2.2.2.2.2.2) (by have := HGP.out.2.1; omega) hq hBW F9 hi9 hone hh9 hw9 b hr hvs x t)
                have hvs1 : VRow w9 w1.heap.size 31 lv vs := by
                  obtain ⟨s0, hi0, _⟩ := HK.out.si
                  exact hvs.1.frE hi0 F9 (by decide) (by decide) (by decide) (by decide) (.inr fun i hi => by
                    have h9 := HGP.out
                    obtain rfl : i = 0 := by omega
                    exact h9.2.2.2.2.2.2)
                have hvl := hvs.2.1
                clear hfin f9 f78 hi9 hone hh9 hw9 hs9 box9 hdom hvs HK hWR hn1 hM hsz hlen hBW hcell hwL
                go_wp2_with fail
                refine hlst.mono ?_
                rintro e w10 ⟨u, rfl, hr10, b10⟩
                obtain ⟨Au, cu, hu, _⟩ := hr10.row
                have hvs2 := hvs1.turns (Turns.of_below (L := []) b10 (Nat.le_refl _)) (by simp)
                have HN := Lib.hid (fun lv' W11 => HN.out w10 u lv' W11 b10 hr10)
                have hB10 : w1.heap.size ≤ w10.heap.size := Nat.le_trans hB9 b10.size
                subst hu
                clear hlst hr10 b10 hvs1 hB9 F9
                obtain ⟨nu, hnu⟩ : ∃ nu, (tsAt m j (q + 1)).length = nu := ⟨_, rfl⟩
                rw [hnu] at HN ⊢
                clear hnu
                go_wp2_with (first | (at_builtin; refine wpList_vrow (T := 57) (E := 31) (z := .slice none 0 0) (u := .slice Au nu cu) (nb := 24) Try.underlying57 (by kernel_rfl) (by omega) rfl rfl hvs2 hB10 (by omega) (by rfl) (.tmp 90) (.tmp 93) rfl rfl rfl ?_; intro lv' W11 r1 r2) | fail)
                go_roundw
                case rel => exact ⟨q + 1, by go_num, HN.out _ _ r1 r2⟩
                case measure => simp [intOf]; omega
              · --END<
                have hle3 := hK.le
                obtain rfl : q = 3 := by omega
                obtain ⟨s, hi, hone, _, hwr⟩ := hK.si
                obtain ⟨v, hwk, _⟩ := hi.wk 0 (by rw [HGP.out.1]; omega)
                rw [HGP.out.2.2.2.2.2.1, hwr] at hwk
                have k3 : W.cell? ⟨h2 + 1, 4, none⟩ = some (.bool false) := hwk.cell 4
                have hwl := hwk.lt
                obtain ⟨vs, hvs, hvl, hrows⟩ := hK.lists
                obtain ⟨u0, u1, u2, rfl⟩ : ∃ a b c, vs = [a, b, c] := by
                  match vs, hvl with
                  | [a, b, c], _ => exact ⟨a, b, c, rfl⟩
                have hr0 := hrows 0 u0 rfl
                have hr1 := hrows 1 u1 rfl
                have hr2 := hrows 2 u2 rfl
                obtain ⟨B0, d0, hu0, hw0⟩ := hr0.row.row
                obtain ⟨B1, d1, hu1, hw1⟩ := hr1.row.row
                obtain ⟨B2, d2, hu2, hw2⟩ := hr2.row.row
                obtain ⟨B0', d0', hu0', hd0⟩ := own_slice hr0.row.own
                have q0 : (tsAt m j (0 + 1)).length = m := upto_length m
                have q1 : (tsAt m j (1 + 1)).length = m - j := by show ((upto m).drop j).length = m - j; rw [List.length_drop, upto_length]
                have q2 : (tsAt m j (2 + 1)).length = m := upto_length m
                rw [hu0] at hu0'
                injection hu0' with he _ hd
                subst he
                rw [q0] at hu0 hw0 hd0
                rw [q1] at hu1 hw1
                rw [q2] at hu2 hw2
                rw [← hd] at hd0
                obtain ⟨A3, c3, hlv, _, hcells⟩ := hvs.slice
                obtain ⟨gl, rfl, hob, hcells⟩ := hcells (by simp)
                obtain ⟨_, cur, hlies⟩ := hvs.lies hob
                have hgl := hlies.lt
                have k0 : W.cell? ⟨gl, 0, none⟩ = some (.slice B0 m d0) := by rw [← hu0]; exact hcells 0 u0 rfl
                have k1 : W.cell? ⟨gl, 1, none⟩ = some (.slice B1 (m - j) d1) := by rw [← hu1]; exact hcells 1 u1 rfl
                have k2 : W.cell? ⟨gl, 2, none⟩ = some (.slice B2 m d2) := by rw [← hu2]; exact hcells 2 u2 rfl
                have hsl := slice_from (e := 3) Try.underlying31 (by kernel_rfl) B0 m d0 j hjm
                obtain ⟨B3, hB3'⟩ : ∃ B3, (if d0 = j then B0 else B0.map (·.add j)) = B3 := ⟨_, rfl⟩
                have hw3 : Row W .i64 B3 (m - j) ((upto m).drop j) := hw0.drop (xs := upto m) (cp := d0) hjm hd0 B3 hB3'.symm
                rw [hB3'] at hsl
                have hw1 : Row W .i64 B1 (m - j) ((upto m).drop j) := hw1
                have hw0 : Row W .i64 B0 m (upto m) := hw0
                have hw2 : Row W .i64 B2 m (upto m) := hw2
                have hsA := fun cq => rsame_any B1 B3 (m - j) d1 cq _ W.drew (hw1.keep (Nat.le_refl _) ((Below.refl _ W).drew)) (hw3.keep (Nat.le_refl _) ((Below.refl _ W).drew))
                have hsA := hsA (d0 - j)
                have hsB := fun W' (b : Below W.heap.size W W') => rsame_any B2 B0 m d2 d0 _ W' (hw2.keep (Nat.le_refl _) b) (hw0.keep (Nat.le_refl _) b)
                have hlv3 : lv = .slice (some ⟨gl, 0, none⟩) 3 c3 := hlv
                subst hlv3
                have hmj : m - j ≤ 100 := by omega
                have hml : IntKind.i64.wrap (m : Int) = m := by rw [IntKind.wrap_i64]; omega
                have hbe := b1.trans (hK.be.mono b1.size)
                clear hK hrows hr0 hr1 hr2 hu0 hu1 hu2 hw0 hw1 hw2 hw3 hvs hcells hlies hone hi hwk hwr hd hd0 hvl hlv hob hB3' q0 q1 q2
                go_wp2_with fail
                refine wp_region_held_drew (S := fun W' => W'.cell? ⟨gl, 0, none⟩ = some (.slice B0 m d0) ∧ W'.cell? ⟨gl, 1, none⟩ = some (.slice B1 (m - j) d1) ∧ W'.cell? ⟨gl, 2, none⟩ = some (.slice B2 m d2) ∧ W'.cell? ⟨h2 + 1, 4, none⟩ = some (.bool false)) (by kernel_rfl) ⟨k0, k1, k2, k3⟩ (fun hHeld => ?_)
                refine wpAnyH_take (i := 0) (oi := { dst := some 96, op := Go.Op.move (Go.Operand.tmp 13), type := 57, pos := "law.go:233", after := #[], guard := none }) (v := ?_) rfl (by kernel_rfl) (by kernel_rfl) (by kernel_rfl) (fun _ _ _ h => h) (Or.inl ⟨by rfl, ?_⟩) hHeld ?_
                rotate_left
                · intro w hSw; obtain ⟨hS0, hS1, hS2, hS3⟩ := hSw; go_simp; try with_reducible rfl
                rotate_left
                try simp only [Act.put, List.setIfInBounds_toArray, List.set_cons_zero, List.set_cons_succ]
                refine wpAnyH_take (i := 1) (oi := { dst := some 97, op := Go.Op.indexAddr 57 (Go.Operand.tmp 96) (Go.Operand.const (Go.Value.int Go.IntKind.i64 0)), type := 0, pos := "law.go:233", after := #[{ on := 0, ground := Go.Ground.data }], guard := none }) (v := ?_) rfl (by kernel_rfl) (by kernel_rfl) (by kernel_rfl) (fun _ _ _ h => h) (Or.inl ⟨by rfl, ?_⟩) hHeld ?_
                rotate_left
                · intro w hSw; obtain ⟨hS0, hS1, hS2, hS3⟩ := hSw; go_simp; try with_reducible rfl
                rotate_left
                try simp only [Act.put, List.setIfInBounds_toArray, List.set_cons_zero, List.set_cons_succ]
                refine wpAnyH_take (i := 2) (oi := { dst := some 98, op := Go.Op.load 31 (Go.Operand.tmp 97), type := 31, pos := "law.go:233", after := #[{ on := 1, ground := Go.Ground.data }], guard := none }) (v := ?_) rfl (by kernel_rfl) (by kernel_rfl) (by kernel_rfl) (fun _ _ _ h => h) (Or.inl ⟨by rfl, ?_⟩) hHeld ?_
                rotate_left
                · intro w hSw; obtain ⟨hS0, hS1, hS2, hS3⟩ := hSw; go_simp; try with_reducible rfl
                rotate_left
                try simp only [Act.put, List.setIfInBounds_toArray, List.set_cons_zero, List.set_cons_succ]
                refine wpAnyH_take (i := 3) (oi := { dst := some 99, op := Go.Op.call { callee := Go.Callee.builtin Go.Builtin.len, args := #[Go.Operand.tmp 98], argTypes := #[31] }, type := 3, pos := "law.go:233", after := #[{ on := 2, ground := Go.Ground.data }], guard := none }) (v := ?_) rfl (by kernel_rfl) (by kernel_rfl) (by kernel_rfl) (fun _ _ _ h => h) (Or.inl ⟨by rfl, ?_⟩) hHeld ?_
                rotate_left
                · intro w hSw; obtain ⟨hS0, hS1, hS2, hS3⟩ := hSw; go_simp; try with_reducible rfl
                rotate_left
                try simp only [Act.put, List.setIfInBounds_toArray, List.set_cons_zero, List.set_cons_succ]
                refine wpAnyH_take (i := 4) (oi := { dst := some 100, op := Go.Op.move (Go.Operand.tmp 5), type := 3, pos := "law.go:233", after := #[], guard := none }) (v := ?_) rfl (by kernel_rfl) (by kernel_rfl) (by kernel_rfl) (fun _ _ _ h => h) (Or.inl ⟨by rfl, ?_⟩) hHeld ?_
                rotate_left
                · intro w hSw; obtain ⟨hS0, hS1, hS2, hS3⟩ := hSw; go_simp; try with_reducible rfl
                rotate_left
                try simp only [Act.put, List.setIfInBounds_toArray, List.set_cons_zero, List.set_cons_succ]
                refine wpAnyH_take (i := 5) (oi := { dst := some 101, op := Go.Op.binOp Go.BinOp.eql 3 (Go.Operand.tmp 99) (Go.Operand.tmp 100) 3, type := 4, pos := "law.go:233", after := #[{ on := 3, ground := Go.Ground.data }, { on := 4, ground := Go.Ground.data }], guard := none }) (v := ?_) rfl (by kernel_rfl) (by kernel_rfl) (by kernel_rfl) (fun _ _ _ h => h) (Or.inl ⟨by rfl, ?_⟩) hHeld ?_
                rotate_left
                · intro w hSw; obtain ⟨hS0, hS1, hS2, hS3⟩ := hSw; go_simp; try with_reducible rfl
                rotate_left
                try simp only [Act.put, List.setIfInBounds_toArray, List.set_cons_zero, List.set_cons_succ]
                refine wpAnyH_take (i := 6) (oi := { dst := some 102, op := Go.Op.move (Go.Operand.tmp 101), type := 4, pos := "law.go:233", after := #[{ on := 5, ground := Go.Ground.data }], guard := none }) (v := ?_) rfl (by kernel_rfl) (by kernel_rfl) (by kernel_rfl) (fun _ _ _ h => h) (Or.inl ⟨by rfl, ?_⟩) hHeld ?_
                rotate_left
                · intro w hSw; obtain ⟨hS0, hS1, hS2, hS3⟩ := hSw; go_simp; try with_reducible rfl
                rotate_left
                try simp only [Act.put, List.setIfInBounds_toArray, List.set_cons_zero, List.set_cons_succ]
                refine wpAnyH_take (i := 7) (oi := { dst := some 103, op := Go.Op.move (Go.Operand.tmp 13), type := 57, pos := "law.go:233", after := #[{ on := 6, ground := Go.Ground.guard }], guard := some (6, true) }) (v := ?_) rfl (by kernel_rfl) (by kernel_rfl) (by kernel_rfl) (fun _ _ _ h => h) (Or.inl ⟨by rfl, ?_⟩) hHeld ?_
                rotate_left
                · intro w hSw; obtain ⟨hS0, hS1, hS2, hS3⟩ := hSw; go_simp; try with_reducible rfl
                rotate_left
                try simp only [Act.put, List.setIfInBounds_toArray, List.set_cons_zero, List.set_cons_succ]
                refine wpAnyH_take (i := 8) (oi := { dst := some 104, op := Go.Op.indexAddr 57 (Go.Operand.tmp 103) (Go.Operand.const (Go.Value.int Go.IntKind.i64 1)), type := 0, pos := "law.go:233", after := #[{ on := 7, ground := Go.Ground.data }, { on := 6, ground := Go.Ground.guard }], guard := some (6, true) }) (v := ?_) rfl (by kernel_rfl) (by kernel_rfl) (by kernel_rfl) (fun _ _ _ h => h) (Or.inl ⟨by rfl, ?_⟩) hHeld ?_
                rotate_left
                · intro w hSw; obtain ⟨hS0, hS1, hS2, hS3⟩ := hSw; go_simp; try with_reducible rfl
                rotate_left
                try simp only [Act.put, List.setIfInBounds_toArray, List.set_cons_zero, List.set_cons_succ]
                refine wpAnyH_take (i := 9) (oi := { dst := some 105, op := Go.Op.load 31 (Go.Operand.tmp 104), type := 31, pos := "law.go:233", after := #[{ on := 8, ground := Go.Ground.data }, { on := 6, ground := Go.Ground.guard }], guard := some (6, true) }) (v := ?_) rfl (by kernel_rfl) (by kernel_rfl) (by kernel_rfl) (fun _ _ _ h => h) (Or.inl ⟨by rfl, ?_⟩) hHeld ?_
                rotate_left
                · intro w hSw; obtain ⟨hS0, hS1, hS2, hS3⟩ := hSw; go_simp; try with_reducible rfl
                rotate_left
                try simp only [Act.put, List.setIfInBounds_toArray, List.set_cons_zero, List.set_cons_succ]
                refine wpAnyH_take (i := 10) (oi := { dst := some 106, op := Go.Op.move (Go.Operand.tmp 13), type := 57, pos := "law.go:233", after := #[{ on := 6, ground := Go.Ground.guard }], guard := some (6, true) }) (v := ?_) rfl (by kernel_rfl) (by kernel_rfl) (by kernel_rfl) (fun _ _ _ h => h) (Or.inl ⟨by rfl, ?_⟩) hHeld ?_
                rotate_left
                · intro w hSw; obtain ⟨hS0, hS1, hS2, hS3⟩ := hSw; go_simp; try with_reducible rfl
                rotate_left
                try simp only [Act.put, List.setIfInBounds_toArray, List.set_cons_zero, List.set_cons_succ]
                refine wpAnyH_take (i := 11) (oi := { dst := some 107, op := Go.Op.indexAddr 57 (Go.Operand.tmp 106) (Go.Operand.const (Go.Value.int Go.IntKind.i64 0)), type := 0, pos := "law.go:233", after := #[{ on := 10, ground := Go.Ground.data }, { on := 6, ground := Go.Ground.guard }], guard := some (6, true) }) (v := ?_) rfl (by kernel_rfl) (by kernel_rfl) (by kernel_rfl) (fun _ _ _ h => h) (Or.inl ⟨by rfl, ?_⟩) hHeld ?_
                rotate_left
                · intro w hSw; obtain ⟨hS0, hS1, hS2, hS3⟩ := hSw; go_simp; try with_reducible rfl
                rotate_left
                try simp only [Act.put, List.setIfInBounds_toArray, List.set_cons_zero, List.set_cons_succ]
                refine wpAnyH_take (i := 12) (oi := { dst := some 108, op := Go.Op.load 31 (Go.Operand.tmp 107), type := 31, pos := "law.go:233", after := #[{ on := 11, ground := Go.Ground.data }, { on := 6, ground := Go.Ground.guard }], guard := some (6, true) }) (v := ?_) rfl (by kernel_rfl) (by kernel_rfl) (by kernel_rfl) (fun _ _ _ h => h) (Or.inl ⟨by rfl, ?_⟩) hHeld ?_
                rotate_left
                · intro w hSw; obtain ⟨hS0, hS1, hS2, hS3⟩ := hSw; go_simp; try with_reducible rfl
                rotate_left
                try simp only [Act.put, List.setIfInBounds_toArray, List.set_cons_zero, List.set_cons_succ]
                refine wpAnyH_take (i := 13) (oi := { dst := some 109, op := Go.Op.move (Go.Operand.tmp 10), type := 22, pos := "law.go:233", after := #[{ on := 6, ground := Go.Ground.guard }], guard := some (6, true) }) (v := ?_) rfl (by kernel_rfl) (by kernel_rfl) (by kernel_rfl) (fun _ _ _ h => h) (Or.inl ⟨by rfl, ?_⟩) hHeld ?_
                rotate_left
                · intro w hSw; obtain ⟨hS0, hS1, hS2, hS3⟩ := hSw; go_simp; try with_reducible rfl
                rotate_left
                try simp only [Act.put, List.setIfInBounds_toArray, List.set_cons_zero, List.set_cons_succ]
                refine wpAnyH_take (i := 14) (oi := { dst := some 110, op := Go.Op.call { callee := Go.Callee.builtin Go.Builtin.len, args := #[Go.Operand.tmp 109], argTypes := #[22] }, type := 3, pos := "law.go:233", after := #[{ on := 13, ground := Go.Ground.data }, { on := 6, ground := Go.Ground.guard }], guard := some (6, true) }) (v := ?_) rfl (by kernel_rfl) (by kernel_rfl) (by kernel_rfl) (fun _ _ _ h => h) (Or.inl ⟨by rfl, ?_⟩) hHeld ?_
                rotate_left
                · intro w hSw; obtain ⟨hS0, hS1, hS2, hS3⟩ := hSw; go_simp; try with_reducible rfl
                rotate_left
                try simp only [Act.put, List.setIfInBounds_toArray, List.set_cons_zero, List.set_cons_succ]
                refine wpAnyH_take (i := 15) (oi := { dst := some 111, op := Go.Op.slice 31 (Go.Operand.tmp 108) (some (Go.Operand.tmp 110)) none none, type := 31, pos := "law.go:233", after := #[{ on := 12, ground := Go.Ground.data }, { on := 14, ground := Go.Ground.data }, { on := 6, ground := Go.Ground.guard }], guard := some (6, true) }) (v := ?_) rfl (by kernel_rfl) (by kernel_rfl) (by kernel_rfl) (fun _ _ _ h => h) (Or.inl ⟨by rfl, ?_⟩) hHeld ?_
                rotate_left
                · intro w hSw; obtain ⟨hS0, hS1, hS2, hS3⟩ := hSw; go_simp; try with_reducible rfl
                rotate_left
                try simp only [Act.put, List.setIfInBounds_toArray, List.set_cons_zero, List.set_cons_succ]
                refine wpAnyH_ready (rs := [16]) (by kernel_rfl) (by simp) ?_
                refine AllReadyH.cons (o := { dst := some 112, op := Go.Op.call { callee := Go.Callee.value (Go.Operand.func 19), args := #[Go.Operand.tmp 105, Go.Operand.tmp 111], argTypes := #[31, 31] }, type := 4, pos := "law.go:233", after := #[{ on := 9, ground := Go.Ground.data }, { on := 15, ground := Go.Ground.data }, { on := 6, ground := Go.Ground.chain }, { on := 6, ground := Go.Ground.guard }], guard := some (6, true) }) rfl (fun K hK => ?_) AllReadyH.nil
                go_simp
                refine hsA.mono ?_
                rintro e w5 ⟨rfl, t5⟩
                have t5 : Below W.heap.size W w5 := (Below.refl _ W).drew.trans t5
                have x0 := (t5.cell (p := ⟨gl, 0, none⟩) hgl).trans k0
                have x1 := (t5.cell (p := ⟨gl, 1, none⟩) hgl).trans k1
                have x2 := (t5.cell (p := ⟨gl, 2, none⟩) hgl).trans k2
                have x3 := (t5.cell (p := ⟨h2 + 1, 4, none⟩) hwl).trans k3
                go_wp2_with fail
                refine hK.out _ _ ⟨x0, x1, x2, x3⟩ (fun hHeld => ?_)
                clear hK K
                try simp only [Act.put, List.setIfInBounds_toArray, List.set_cons_zero, List.set_cons_succ]
                refine wpAnyH_take (i := 17) (oi := { dst := some 113, op := Go.Op.pick (Go.Operand.tmp 102) (Go.Operand.tmp 112) (Go.Operand.const (Go.Value.bool false)), type := 4, pos := "law.go:233", after := #[{ on := 6, ground := Go.Ground.data }, { on := 16, ground := Go.Ground.data }], guard := none }) (v := ?_) rfl (by kernel_rfl) (by kernel_rfl) (by kernel_rfl) (fun _ _ _ h => h) (Or.inl ⟨by rfl, ?_⟩) hHeld ?_
                rotate_left
                · intro w hSw; obtain ⟨hS0, hS1, hS2, hS3⟩ := hSw; go_simp; try with_reducible rfl
                rotate_left
                try simp only [Act.put, List.setIfInBounds_toArray, List.set_cons_zero, List.set_cons_succ]
                refine wpAnyH_take (i := 18) (oi := { dst := some 114, op := Go.Op.move (Go.Operand.tmp 113), type := 4, pos := "law.go:233", after := #[{ on := 17, ground := Go.Ground.data }, { on := 16, ground := Go.Ground.chain }], guard := none }) (v := ?_) rfl (by kernel_rfl) (by kernel_rfl) (by kernel_rfl) (fun _ _ _ h => h) (Or.inl ⟨by rfl, ?_⟩) hHeld ?_
                rotate_left
                · intro w hSw; obtain ⟨hS0, hS1, hS2, hS3⟩ := hSw; go_simp; try with_reducible rfl
                rotate_left
                try simp only [Act.put, List.setIfInBounds_toArray, List.set_cons_zero, List.set_cons_succ]
                refine wpAnyH_take (i := 19) (oi := { dst := some 115, op := Go.Op.move (Go.Operand.tmp 13), type := 57, pos := "law.go:233", after := #[{ on := 18, ground := Go.Ground.guard }], guard := some (18, true) }) (v := ?_) rfl (by kernel_rfl) (by kernel_rfl) (by kernel_rfl) (fun _ _ _ h => h) (Or.inl ⟨by rfl, ?_⟩) hHeld ?_
                rotate_left
                · intro w hSw; obtain ⟨hS0, hS1, hS2, hS3⟩ := hSw; go_simp; try with_reducible rfl
                rotate_left
                try simp only [Act.put, List.setIfInBounds_toArray, List.set_cons_zero, List.set_cons_succ]
                refine wpAnyH_take (i := 20) (oi := { dst := some 116, op := Go.Op.indexAddr 57 (Go.Operand.tmp 115) (Go.Operand.const (Go.Value.int Go.IntKind.i64 2)), type := 0, pos := "law.go:233", after := #[{ on := 19, ground := Go.Ground.data }, { on := 18, ground := Go.Ground.guard }], guard := some (18, true) }) (v := ?_) rfl (by kernel_rfl) (by kernel_rfl) (by kernel_rfl) (fun _ _ _ h => h) (Or.inl ⟨by rfl, ?_⟩) hHeld ?_
                rotate_left
                · intro w hSw; obtain ⟨hS0, hS1, hS2, hS3⟩ := hSw; go_simp; try with_reducible rfl
                rotate_left
                try simp only [Act.put, List.setIfInBounds_toArray, List.set_cons_zero, List.set_cons_succ]
                refine wpAnyH_take (i := 21) (oi := { dst := some 117, op := Go.Op.load 31 (Go.Operand.tmp 116), type := 31, pos := "law.go:233", after := #[{ on := 20, ground := Go.Ground.data }, { on := 18, ground := Go.Ground.guard }], guard := some (18, true) }) (v := ?_) rfl (by kernel_rfl) (by kernel_rfl) (by kernel_rfl) (fun _ _ _ h => h) (Or.inl ⟨by rfl, ?_⟩) hHeld ?_
                rotate_left
                · intro w hSw; obtain ⟨hS0, hS1, hS2, hS3⟩ := hSw; go_simp; try with_reducible rfl
                rotate_left
                try simp only [Act.put, List.setIfInBounds_toArray, List.set_cons_zero, List.set_cons_succ]
                refine wpAnyH_take (i := 22) (oi := { dst := some 118, op := Go.Op.move (Go.Operand.tmp 13), type := 57, pos := "law.go:233", after := #[{ on := 18, ground := Go.Ground.guard }], guard := some (18, true) }) (v := ?_) rfl (by kernel_rfl) (by kernel_rfl) (by kernel_rfl) (fun _ _ _ h => h) (Or.inl ⟨by rfl, ?_⟩) hHeld ?_
                rotate_left
                · intro w hSw; obtain ⟨hS0, hS1, hS2, hS3⟩ := hSw; go_simp; try with_reducible rfl
                rotate_left
                try simp only [Act.put, List.setIfInBounds_toArray, List.set_cons_zero, List.set_cons_succ]
                refine wpAnyH_take (i := 23) (oi := { dst := some 119, op := Go.Op.indexAddr 57 (Go.Operand.tmp 118) (Go.Operand.const (Go.Value.int Go.IntKind.i64 0)), type := 0, pos := "law.go:233", after := #[{ on := 22, ground := Go.Ground.data }, { on := 18, ground := Go.Ground.guard }], guard := some (18, true) }) (v := ?_) rfl (by kernel_rfl) (by kernel_rfl) (by kernel_rfl) (fun _ _ _ h => h) (Or.inl ⟨by rfl, ?_⟩) hHeld ?_
                rotate_left
                · intro w hSw; obtain ⟨hS0, hS1, hS2, hS3⟩ := hSw; go_simp; try with_reducible rfl
                rotate_left
                try simp only [Act.put, List.setIfInBounds_toArray, List.set_cons_zero, List.set_cons_succ]
                refine wpAnyH_take (i := 24) (oi := { dst := some 120, op := Go.Op.load 31 (Go.Operand.tmp 119), type := 31, pos := "law.go:233", after := #[{ on := 23, ground := Go.Ground.data }, { on := 18, ground := Go.Ground.guard }], guard := some (18, true) }) (v := ?_) rfl (by kernel_rfl) (by kernel_rfl) (by kernel_rfl) (fun _ _ _ h => h) (Or.inl ⟨by rfl, ?_⟩) hHeld ?_
                rotate_left
                · intro w hSw; obtain ⟨hS0, hS1, hS2, hS3⟩ := hSw; go_simp; try with_reducible rfl
                rotate_left
                try simp only [Act.put, List.setIfInBounds_toArray, List.set_cons_zero, List.set_cons_succ]
                refine wpAnyH_ready (rs := [25]) (by kernel_rfl) (by simp) ?_
                refine AllReadyH.cons (o := { dst := some 121, op := Go.Op.call { callee := Go.Callee.value (Go.Operand.func 19), args := #[Go.Operand.tmp 117, Go.Operand.tmp 120], argTypes := #[31, 31] }, type := 4, pos := "law.go:233", after := #[{ on := 21, ground := Go.Ground.data }, { on := 24, ground := Go.Ground.data }, { on := 18, ground := Go.Ground.chain }, { on := 18, ground := Go.Ground.guard }], guard := some (18, true) }) rfl (fun K hK => ?_) AllReadyH.nil
                go_simp
                refine (hsB _ t5).mono ?_
                rintro e w6 ⟨rfl, t6⟩
                have t6 : Below W.heap.size W w6 := t5.trans (t6.mono t5.size)
                have y0 := (t6.cell (p := ⟨gl, 0, none⟩) hgl).trans k0
                have y1 := (t6.cell (p := ⟨gl, 1, none⟩) hgl).trans k1
                have y2 := (t6.cell (p := ⟨gl, 2, none⟩) hgl).trans k2
                have y3 := (t6.cell (p := ⟨h2 + 1, 4, none⟩) hwl).trans k3
                go_wp2_with fail
                refine hK.out _ _ ⟨y0, y1, y2, y3⟩ (fun hHeld => ?_)
                clear hK K
                try simp only [Act.put, List.setIfInBounds_toArray, List.set_cons_zero, List.set_cons_succ]
                refine wpAnyH_take (i := 26) (oi := { dst := some 122, op := Go.Op.pick (Go.Operand.tmp 114) (Go.Operand.tmp 121) (Go.Operand.const (Go.Value.bool false)), type := 4, pos := "law.go:233", after := #[{ on := 18, ground := Go.Ground.data }, { on := 25, ground := Go.Ground.data }], guard := none }) (v := ?_) rfl (by kernel_rfl) (by kernel_rfl) (by kernel_rfl) (fun _ _ _ h => h) (Or.inl ⟨by rfl, ?_⟩) hHeld ?_
                rotate_left
                · intro w hSw; obtain ⟨hS0, hS1, hS2, hS3⟩ := hSw; go_simp; try with_reducible rfl
                rotate_left
                try simp only [Act.put, List.setIfInBounds_toArray, List.set_cons_zero, List.set_cons_succ]
                refine wpAnyH_take (i := 27) (oi := { dst := some 123, op := Go.Op.move (Go.Operand.tmp 122), type := 4, pos := "law.go:233", after := #[{ on := 26, ground := Go.Ground.data }, { on := 25, ground := Go.Ground.chain }], guard := none }) (v := ?_) rfl (by kernel_rfl) (by kernel_rfl) (by kernel_rfl) (fun _ _ _ h => h) (Or.inl ⟨by rfl, ?_⟩) hHeld ?_
                rotate_left
                · intro w hSw; obtain ⟨hS0, hS1, hS2, hS3⟩ := hSw; go_simp; try with_reducible rfl
                rotate_left
                try simp only [Act.put, List.setIfInBounds_toArray, List.set_cons_zero, List.set_cons_succ]
                refine wpAnyH_take (i := 28) (oi := { dst := some 124, op := Go.Op.move (Go.Operand.tmp 8), type := 30, pos := "law.go:233", after := #[{ on := 27, ground := Go.Ground.guard }], guard := some (27, true) }) (v := ?_) rfl (by kernel_rfl) (by kernel_rfl) (by kernel_rfl) (fun _ _ _ h => h) (Or.inl ⟨by rfl, ?_⟩) hHeld ?_
                rotate_left
                · intro w hSw; obtain ⟨hS0, hS1, hS2, hS3⟩ := hSw; go_simp; try with_reducible rfl
                rotate_left
                try simp only [Act.put, List.setIfInBounds_toArray, List.set_cons_zero, List.set_cons_succ]
                refine wpAnyH_take (i := 29) (oi := { dst := some 125, op := Go.Op.nilCheck (Go.Operand.tmp 124), type := 0, pos := "law.go:233", after := #[{ on := 28, ground := Go.Ground.data }, { on := 27, ground := Go.Ground.guard }], guard := some (27, true) }) (v := ?_) rfl (by kernel_rfl) (by kernel_rfl) (by kernel_rfl) (fun _ _ _ h => h) (Or.inl ⟨by rfl, ?_⟩) hHeld ?_
                rotate_left
                · intro w hSw; obtain ⟨hS0, hS1, hS2, hS3⟩ := hSw; go_simp; try with_reducible rfl
                rotate_left
                try simp only [Act.put, List.setIfInBounds_toArray, List.set_cons_zero, List.set_cons_succ]
                refine wpAnyH_take (i := 30) (oi := { dst := some 126, op := Go.Op.fieldAddr 34 (Go.Operand.tmp 125) 4, type := 0, pos := "law.go:233", after := #[{ on := 29, ground := Go.Ground.data }, { on := 27, ground := Go.Ground.guard }], guard := some (27, true) }) (v := ?_) rfl (by kernel_rfl) (by kernel_rfl) (by kernel_rfl) (fun _ _ _ h => h) (Or.inl ⟨by rfl, ?_⟩) hHeld ?_
                rotate_left
                · intro w hSw; obtain ⟨hS0, hS1, hS2, hS3⟩ := hSw; go_simp; try with_reducible rfl
                rotate_left
                try simp only [Act.put, List.setIfInBounds_toArray, List.set_cons_zero, List.set_cons_succ]
                refine wpAnyH_take (i := 31) (oi := { dst := some 127, op := Go.Op.load 4 (Go.Operand.tmp 126), type := 4, pos := "law.go:233", after := #[{ on := 30, ground := Go.Ground.data }, { on := 27, ground := Go.Ground.guard }], guard := some (27, true) }) (v := ?_) rfl (by kernel_rfl) (by kernel_rfl) (by kernel_rfl) (fun _ _ _ h => h) (Or.inl ⟨by rfl, ?_⟩) hHeld ?_
                rotate_left
                · intro w hSw; obtain ⟨hS0, hS1, hS2, hS3⟩ := hSw; go_simp; try with_reducible rfl
                rotate_left
                try simp only [Act.put, List.setIfInBounds_toArray, List.set_cons_zero, List.set_cons_succ]
                refine wpAnyH_take (i := 32) (oi := { dst := some 128, op := Go.Op.unOp Go.UnOp.not 4 (Go.Operand.tmp 127), type := 4, pos := "law.go:233", after := #[{ on := 31, ground := Go.Ground.data }, { on := 27, ground := Go.Ground.guard }], guard := some (27, true) }) (v := ?_) rfl (by kernel_rfl) (by kernel_rfl) (by kernel_rfl) (fun _ _ _ h => h) (Or.inl ⟨by rfl, ?_⟩) hHeld ?_
                rotate_left
                · intro w hSw; obtain ⟨hS0, hS1, hS2, hS3⟩ := hSw; go_simp; try with_reducible rfl
                rotate_left
                try simp only [Act.put, List.setIfInBounds_toArray, List.set_cons_zero, List.set_cons_succ]
                refine wpAnyH_take (i := 33) (oi := { dst := some 129, op := Go.Op.pick (Go.Operand.tmp 123) (Go.Operand.tmp 128) (Go.Operand.const (Go.Value.bool false)), type := 4, pos := "law.go:233", after := #[{ on := 27, ground := Go.Ground.data }, { on := 32, ground := Go.Ground.data }], guard := none }) (v := ?_) rfl (by kernel_rfl) (by kernel_rfl) (by kernel_rfl) (fun _ _ _ h => h) (Or.inl ⟨by rfl, ?_⟩) hHeld ?_
                rotate_left
                · intro w hSw; obtain ⟨hS0, hS1, hS2, hS3⟩ := hSw; go_simp; try with_reducible rfl
                rotate_left
                try simp only [Act.put, List.setIfInBounds_toArray, List.set_cons_zero, List.set_cons_succ]
                refine wpAnyH_take (i := 34) (oi := { dst := some 4, op := Go.Op.assign (Go.Operand.tmp 129), type := 4, pos := "law.go:233", after := #[{ on := 33, ground := Go.Ground.data }, { on := 27, ground := Go.Ground.chain }, { on := 0, ground := Go.Ground.phase }, { on := 1, ground := Go.Ground.phase }, { on := 2, ground := Go.Ground.phase }, { on := 3, ground := Go.Ground.phase }, { on := 4, ground := Go.Ground.phase }, { on := 5, ground := Go.Ground.phase }, { on := 6, ground := Go.Ground.phase }, { on := 7, ground := Go.Ground.phase }, { on := 8, ground := Go.Ground.phase }, { on := 9, ground := Go.Ground.phase }, { on := 10, ground := Go.Ground.phase }, { on := 11, ground := Go.Ground.phase }, { on := 12, ground := Go.Ground.phase }, { on := 13, ground := Go.Ground.phase }, { on := 14, ground := Go.Ground.phase }, { on := 15, ground := Go.Ground.phase }, { on := 16, ground := Go.Ground.phase }, { on := 17, ground := Go.Ground.phase }, { on := 18, ground := Go.Ground.phase }, { on := 19, ground := Go.Ground.phase }, { on := 20, ground := Go.Ground.phase }, { on := 21, ground := Go.Ground.phase }, { on := 22, ground := Go.Ground.phase }, { on := 23, ground := Go.Ground.phase }, { on := 24, ground := Go.Ground.phase }, { on := 25, ground := Go.Ground.phase }, { on := 26, ground := Go.Ground.phase }, { on := 27, ground := Go.Ground.phase }, { on := 28, ground := Go.Ground.phase }, { on := 29, ground := Go.Ground.phase }, { on := 30, ground := Go.Ground.phase }, { on := 31, ground := Go.Ground.phase }, { on := 32, ground := Go.Ground.phase }, { on := 33, ground := Go.Ground.phase }], guard := none }) (v := ?_) rfl (by kernel_rfl) (by kernel_rfl) (by kernel_rfl) (fun _ _ _ h => h) (Or.inl ⟨by rfl, ?_⟩) hHeld ?_
                rotate_left
                · intro w hSw; obtain ⟨hS0, hS1, hS2, hS3⟩ := hSw; go_simp; try with_reducible rfl
                rotate_left
                try simp only [Act.put, List.setIfInBounds_toArray, List.set_cons_zero, List.set_cons_succ]
                refine wpAnyH_done (by kernel_rfl) ?_ _
                go_wp2
                go_ret
                exact ⟨rfl, hbe.trans (t6.mono hbe.size)⟩

theorem back8_nat (a b : Int) (w : World) (ha : 0 ≤ a ∧ a < 256) (hb : 0 ≤ b ∧ b < 256) :
    Calls Try.prog 6 #[.int .u8 a, .int .u8 b] w fun e w' => e = .returned (.bool true) ∧ Below w.heap.size w w' := by
  obtain ⟨n, rfl⟩ := Int.eq_ofNat_of_zero_le ha.1
  obtain ⟨m, rfl⟩ := Int.eq_ofNat_of_zero_le hb.1
  exact back8 n m (by omega) (by omega) w

end Go.Proofs.Ythjbmaeoogophaa
