/- Contract: Batches. -/
import Derived.Test.YtplbebfiebojhaaR5
namespace Go.Proofs.Ytplbebfiebojhaa
open Go.RowKit Go.Maps Go.Sort

theorem law_int : Keyed Try.prog 3 := int_keyed Try.underlying3

/-- behind Batches: a slice of its own, that has the times, each once, rising. -/
def Batched (w : World) (dl : List Int) (e : Ending) (w' : World) : Prop :=
  ∃ v ts, e = .returned v ∧ IRow w' w.heap.size v ts ∧ Rises dl ts ∧ ts.length ≤ dl.length ∧ Below w.heap.size w w'

theorem wf_due (d s : Int) : (Lit.int .i64 (due d s)).wf = true := by have := due_in d s; exact WalkArith.wf_i64 (by omega)

/-- the first m deadlines are in the map. -/
structure Mapped (w : World) (xs : List Int) (s : Int) (m : Nat) (W : World) : Prop where
  own : W.ownsMap Try.prog 3 (plainElem (H := Unit) Try.prog 4) w.heap.size m (setD (dues (xs.take m) s))
  be : Below w.heap.size w W

theorem setD_step (xs : List Int) (s : Int) (m : Nat) (h : m < xs.length) : setD (dues (xs.take (m + 1)) s) = (setD (dues (xs.take m) s)).put (.int .i64 (due (xs.getD m 0) s)) (.lit (.bool true)) := by
  unfold setD
  rw [← setOf_snoc]
  have e : xs.getD m 0 = xs[m] := by simp [List.getD, h]
  rw [List.take_succ_eq_append_getElem h, e]
  unfold dues keys
  rw [List.map_append, List.map_append]
  rfl

theorem Mapped.next {w W W' : World} {xs : List Int} {s : Int} {m : Nat} (h : Mapped w xs s m W) (hm : m < xs.length)
    (h1 : W'.ownsMap Try.prog 3 (plainElem (H := Unit) Try.prog 4) w.heap.size (m + 1) ((setD (dues (xs.take m) s)).put (.int .i64 (due (xs.getD m 0) s)) (.lit (.bool true)))) (h2 : W.grownBy W' (some w.heap.size)) : Mapped w xs s (m + 1) W' :=
  ⟨by rw [setD_step xs s m hm]; exact h1, h.be.grown h2 h.be.size (fun j hj => by cases hj; exact Nat.le_refl _)⟩

theorem nodup_le : ∀ (ss dl : List Int), ss.Nodup → (∀ x, x ∈ ss → x ∈ dl) → ss.length ≤ dl.length
  | [], _, _, _ => Nat.zero_le _
  | x :: t, dl, hn, hs => by
    have hx := hs x (by simp)
    have hn' := List.nodup_cons.1 hn
    have := nodup_le t (dl.erase x) hn'.2 (fun y hy => by
      have hne : y ≠ x := fun e => hn'.1 (e ▸ hy)
      exact (List.mem_erase_of_ne hne).2 (hs y (by simp [hy])))
    rw [List.length_erase_of_mem hx] at this
    have hp := List.length_pos_of_mem hx
    simp only [List.length_cons]; omega

/-- a bool in a box of its own (the walk parts on a plain one). -/
structure BB where
  b : Bool
def BB.val (c : BB) : Value := .bool c.b
theorem plain_bb_inv {H : Type} {P : Program} {e : TypeId} (he : P.underlying e = some .bool) {v : Value} {z : DataW H × List MemPlace} (h : plainElem P e v = some z) : ∃ c, v = BB.val c := by
  obtain ⟨c, rfl⟩ := plain_bool_inv he h
  exact ⟨⟨c⟩, rfl⟩

/-- the map is gone through; ss has come by. -/
structure Going (w : World) (r m : Nat) (dl : List Int) (left : Lit → Bool) (cnt : Nat) (v : Value) (ss : List Int) (W : World) : Prop where
  rg : W.ranges Try.prog 3 (plainElem (H := Unit) Try.prog 4) w.heap.size r m (setD dl) left cnt
  row : IRow W (w.heap.size + 1) v ss
  col : Coll dl left ss
  be : Below w.heap.size w W
  hi : w.heap.size + 1 ≤ W.heap.size
  rhi : w.heap.size ≤ r

theorem Going.len {w : World} {r m : Nat} {dl : List Int} {left : Lit → Bool} {cnt : Nat} {v : Value} {ss : List Int} {W : World} (h : Going w r m dl left cnt v ss W) : ss.length ≤ dl.length :=
  nodup_le _ _ h.col.nodup fun x hx => ((h.col.mem x).1 hx).1

theorem IRow.from_ {W : World} {B C : Nat} {v : Value} {xs : List Int} (h : IRow W C v xs) (hB : B ≤ C) : IRow W B v xs := by
  refine ⟨⟨h.own.1, ?_⟩, h.ints⟩
  rcases h.own.2 with h1 | ⟨g, cap, cur, h1, h2, h3⟩
  · exact .inl h1
  · exact .inr ⟨g, cap, cur, h1, by omega, h3⟩

set_option maxRecDepth 100000 in
set_option maxHeartbeats 2000000 in
theorem batches_any (A : Option Addr) (n cp : Nat) (xs : List Int) (s : Int) (w : World) (hr : Row w .i64 A n xs) (hn : n ≤ 40) :
    Calls Try.prog 14 #[.slice A n cp, .int .i64 s] w (Batched w (dues xs s)) := by
  have hln := hr.len
  have hmm := @run_makeMap Try.prog
  have hM0 : Mapped w xs s 0 (w.alloc (.map #[] 0)) := ⟨World.ownsMap_made _ _ _ _, (Below.refl _ _).alloc (Nat.le_refl _) _⟩
  go_enter Try.func14, Try.ntmps14
  go_wp2_with fail
  go_loopw [13] (fun i W => ∃ m : Nat, m ≤ n ∧ i = .int .i64 m ∧ Mapped w xs s m W) (fun i _ => n - (intOf i).toNat)
  case atStart => exact ⟨0, by omega, rfl, hM0⟩
  case round =>
    clear hM0
    obtain ⟨m, hmn, rfl, hM⟩ := hrel
    by_cases hlt : m < n
    · obtain ⟨a, rfl, hab, hcell⟩ := (hr.keep (Nat.le_refl _) hM.be).at_ (by omega)
      have hc := hcell m hlt
      have hown := hM.own
      have hnext := fun W' => Mapped.next (W' := W') hM (by omega)
      have c1 := up_any (xs.getD m 0) s wr
      have hwf := wf_due (xs.getD m 0) s
      clear hcell hM
      generalize xs.getD m 0 = y at *
      generalize due y s = d at *
      go_wp2_with fail
      refine c1.mono ?_
      rintro e w1 ⟨rfl, rfl⟩
      clear c1
      go_wp2_with (first
        | (at_mapUpdate
           refine wpList_mapUpdate_own _ rfl _ _ _ 38 rfl 3 4 law_int Try.underlying38 _ w.heap.size m _ rfl hown (by unfold maxLen; omega) _ _ _ rfl rfl (keyOf_int_mk Try.underlying3 hwf) _ [] (plainElem_bool Try.underlying4 true) ?_
           intro w1 hown1 hgrow1
           have hM1 := hnext _ hown1 hgrow1
           clear hown1 hgrow1)
        | fail)
      go_roundw
      case rel => exact ⟨m + 1, by omega, by go_num, hM1⟩
      case measure => simp [intOf]; omega
    · obtain rfl : m = n := by omega
      have hown := hM.own
      rw [show xs.take m = xs by rw [← hln, List.take_length]] at hown
      have hbe := hM.be
      have hdl : (dues xs s).length = m := by simp [dues, hln]
      clear hM
      go_wp2_with (first
        | (at_range
           refine wpList_range_own _ rfl _ 38 rfl 3 4 law_int Try.underlying38 _ w.heap.size m _ rfl hown ?_
           intro w0 hrg0 hg0 hs0)
        | fail)
      go_frame
      have hlt := hown.lt
      have hG0 : Going w wr.heap.size m (dues xs s) _ _ (.slice none 0 0) [] w0 :=
        ⟨hrg0, IRow.nil _ _, Coll.start _, hbe.grown hg0 hbe.size (fun j hj => by cases hj), by omega, hbe.size⟩
      clear hs0 hrg0 hg0 hown
      generalize wr.heap.size = r at *
      go_loopw [8] (fun v W => ∃ left cnt ss, Going w r m (dues xs s) left cnt v ss W) (fun _ W => W.rangeLeft w.heap.size r)
      case atStart => exact ⟨_, _, _, hG0⟩
      case round =>
        clear hG0
        obtain ⟨left, cnt, ss, G⟩ := hrel
        have hrg := G.rg
        have hdlen := G.len
        go_wp2_with (first
          | (at_next
             refine wpList_next_ranges _ rfl _ rfl 3 law_int (plainElem (H := Unit) Try.prog 4) (Value.int .i64) BB.val (fun key kl hk => by obtain ⟨x, hx, _⟩ := Maps.keyOf_int_inv Try.underlying3 hk; exact ⟨x, hx⟩) (fun v y hv => plain_bb_inv Try.underlying4 hv) w.heap.size r m _ _ _ rfl hrg ?_ ?_)
          | fail)
        · intro hc0 hl0
          have hmem := G.col.all hl0
          have hnd := G.col.nodup
          have hbe2 := G.be
          have hrow := G.row
          have hints := G.row.ints
          clear hrg hr hmm
          rcases hrow.own.2 with ⟨rfl, h0⟩ | ⟨g, cap, cur, rfl, hbase, hb, h1, h2, h3, h4⟩
          · obtain rfl : ss = [] := List.length_eq_zero_iff.1 h0
            go_wp2_with fail
            refine (Try.slices_Sort_int_none _ _ _).mono ?_
            rintro e w' ⟨rfl, rfl⟩
            go_wp2
            go_ret
            exact ⟨_, [], rfl, IRow.nil _ _, ⟨hmem, List.Pairwise.nil⟩, by simp, hbe2⟩
          · have hH : Holds (Value.int .i64) wr g 0 ss.toArray := holds_of_blockI hb (by simpa using h4)
            have hgl : g < wr.heap.size := (Array.getElem?_eq_some_iff.1 hb).1
            have hc := Try.slices_Sort_int g 0 cap ss wr hH hgl (by omega)
            go_wp2_with fail
            refine hc.mono ?_
            rintro e w' ⟨rfl, nn, os, rfl⟩
            have hfin := ownsRow_sortedI (n := nn) (os := os) (ts := ss.mergeSort fun x y => decide (x ≤ y)) (List.length_mergeSort _) hbase hb h1 h2 h3
            have hbf := hbe2.grown (grownBy_sortedI (g := g) (n := nn) (os := os) (ss.mergeSort fun x y => decide (x ≤ y)).toArray) hbe2.size (fun j hj => by cases hj; omega)
            have hri := Rises.sorted hnd hmem
            have hi2 : Ints (ss.mergeSort fun x y => decide (x ≤ y)) := fun x hx => hints x ((List.mergeSort_perm _ _).mem_iff.1 hx)
            have hle : (ss.mergeSort fun x y => decide (x ≤ y)).length = ss.length := List.length_mergeSort _
            clear hc hH
            generalize (grow (putRow (Value.int .i64) (Sort.ahead wr nn) g 0 (ss.mergeSort fun x y => decide (x ≤ y)).toArray) os) = w5 at *
            go_wp2
            go_ret
            exact ⟨_, _, rfl, IRow.from_ ⟨by rw [hle]; exact hfin, hi2⟩ (Nat.le_succ _), hri, by omega, hbf⟩
        · intro x c kl yd yp w2 cnt2 hkey hlk hv hat hrg2 hlt2 hg2 hs2 hen
          obtain ⟨x', ex, rfl, hwx⟩ := Maps.keyOf_int_inv Try.underlying3 hkey
          obtain rfl : x = x' := by cases ex; rfl
          have hrow2 : IRow w2 (w.heap.size + 1) _ ss := G.row.kept fun g hg => hg2.block g (G.row.lt g hg).2 (fun e => by
            have := row_ne_iter G.row.own hrg; rw [hg] at this; exact this e.symm)
          have hcol := G.col.step hlk
          have hbe2 : Below w.heap.size w w2 := G.be.grown hg2 G.be.size (fun j hj => by cases hj; exact G.rhi)
          have hhi2 : w.heap.size + 1 ≤ w2.heap.size := by have := G.hi; omega
          have hrhi := G.rhi
          have hleft := hrg.left_eq
          have hL := IRow.lit w2 (B := w.heap.size + 1) [x] #[.int .i64 x] rfl hhi2 (Ints.one hwx) (by simp)
          obtain ⟨A3, cp3, e3, hr3⟩ := hL.row
          injection e3 with e3 e4 e5
          subst e3
          have hrow3 := hrow2.alloc (.cells #[.int .i64 x] 3)
          have hbe3 := hbe2.alloc hbe2.size (.cells #[.int .i64 x] 3)
          have hrg3 := hrg2.alloc (.cells #[.int .i64 x] 3)
          have hsz3 : w.heap.size + 1 ≤ (w2.alloc (.cells #[.int .i64 x] 3)).heap.size := by simp; omega
          clear hs2 hL e4 e5 hkey hv hat hrg hrg2 G hbe2 hrow2 hr hmm ex hg2
          go_wp2_with (first
            | (at_builtin
               refine wpList_irow hrow3 hsz3 rfl (.tmp 28) (.tmp 30) rfl rfl rfl hr3 (by simp) (by simp; omega) ?_
               intro v' w' k1 k2 k3
               go_frame
               have hrg4 := hrg3.kept k3 (row_ne_low hrow3.own (by omega)) (row_ne_iter hrow3.own hrg3)
               have G4 : Going w r m (dues xs s) _ cnt2 v' (ss ++ [x]) w' := ⟨hrg4, k1, hcol, hbe3.trans (k2.mono (by omega)), Nat.le_trans hsz3 k2.size, hrhi⟩
               have hleft2 := hrg4.left_eq
               clear hrg4 k1 k2 k3 hrow3 hrg3 hr3)
            | fail)
          go_roundw
          case rel => exact ⟨_, _, _, G4⟩
          case measure => rw [hleft2, hleft]; exact hlt2
end Go.Proofs.Ytplbebfiebojhaa
