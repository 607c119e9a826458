/- The law: an arena of any numbers has these; what is handed in, or told, may be written over. -/
import Derived.Test.YtpikcfnfappdiaaC9
import Derived.Test.YtpikcfnfappdiaaC5
import Derived.OwnWalk
import Derived.Deep.AppendLies
import Derived.RegionTactic
import Derived.Deep.RegionHeld3
import Derived.IntWalk
namespace Go.Proofs.Ytpikcfnfappdiaa
open Go.RowKit

theorem Turns.cell {L : List Nat} {w w' : World} (h : Turns L w w') {p : Addr} (hp : p.block < w.heap.size) (hn : p.block ∉ L) : w'.cell? p = w.cell? p := World.cell?_of_block (w := w) (h.block p.block hp hn)

theorem drawn {B : Nat} {a w : World} (h : Below B a w) (n : Nat) : Below B a (w.drewN n) := ⟨h.os, h.tape, h.output, h.size, h.block⟩

/-- nothing is appended. -/
theorem wpList_append_zero {P : Program} {w : World} {ops : Array Oper} {rest : List Oper} {o : Oper} {a : Act} {Q : Exit → Act → World → Prop} (hgd : o.guard = none) (s x : Operand) (t : TypeId)
    (ho : o.op = .call { callee := .builtin .append, args := #[s, x], argTypes := #[t, t] })
    (e : TypeId) (i : TypeInfo) (ht : P.underlying t = some (.slice e)) (hi : P.info? e = some i)
    (g : Addr) (m k : Nat) (A : Option Addr) (c : Nat) (hmk : m ≤ k) (hs : a.eval s = .slice (some g) m k) (hx : a.eval x = .slice A 0 c)
    (h : wpList P ops Q rest (a.put o.dst (.slice (some g) m k)) w) : wpList P ops Q (o :: rest) a w := by
  refine wpList_plain hgd fun K hK => ?_
  have hrun : (Builtin.append_ #[t, t] o.type #[.slice (some g) m k, .slice A 0 c]).run P w = .ok (.slice (some g) m k) w := by
    cases A <;> simp [Builtin.append_, run_underlying ht, sizeOf, typeInfo, hi, Builtin.lenOf, Builtin.firstCells, hmk, storeCells, loadCells, loadCellsFrom]
  unfold Oper.wp
  simp [execOp, ho, resolve, invoke, builtin, hs, hx, hrun, Result.andThen]
  exact hK _ _ h

/-- n numbers lie at the head of block g, which is ours. -/
def Own (w : World) (g n : Nat) : Prop := ∃ cur : Array Value, Lies w g 33 cur ∧ ∀ i, i < n → ∃ x, cur[i]? = some (.int .u64 x)
theorem Own.at_ {w : World} {g n i : Nat} (h : Own w g n) (hi : i < n) : ∃ x, w.cell? ⟨g, i, none⟩ = some (.int .u64 x) ∧ w.frozen? ⟨g, i, none⟩ = false := by
  obtain ⟨cur, hl, hc⟩ := h
  obtain ⟨x, hx⟩ := hc i hi
  exact ⟨x, (hl.cell i).trans hx, hl.frozen i⟩
theorem Own.set {w : World} {g n : Nat} (h : Own w g n) (i : Nat) (x : Int) : Own (w.setCell ⟨g, i, none⟩ (.int .u64 x)) g n := by
  obtain ⟨cur, hl, hc⟩ := h
  refine ⟨_, hl.set i _, fun j hj => ?_⟩
  obtain ⟨y, hy⟩ := hc j hj
  rw [Array.getElem?_setIfInBounds]
  by_cases hij : i = j
  · subst hij
    have : i < cur.size := (Array.getElem?_eq_some_iff.1 hy).1
    exact ⟨x, by simp [this]⟩
  · exact ⟨y, by simp [hij, hy]⟩
theorem Own.of {w : World} {g : Nat} {l : List Int} (h : Lies w g 33 (nums l)) : Own w g l.length := ⟨_, h, fun _ hi => ⟨_, nums_at hi⟩⟩
theorem Own.keep {w w' : World} {g n B : Nat} (h : Own w g n) (k : Below B w w') (hg : g < B) : Own w' g n := by
  obtain ⟨cur, hl, hc⟩ := h
  exact ⟨cur, hl.below k hg, hc⟩
theorem Own.lt {w : World} {g n : Nat} (h : Own w g n) : g < w.heap.size := by
  obtain ⟨cur, hl, _⟩ := h
  exact hl.lt

/-- what append made: a row of its own, that has these numbers. -/
theorem own_row {w : World} {B : Nat} {v : Value} {n : Nat} {xs : List Int} (h : w.ownsRow B 33 1 v n (xs.map (Value.int .u64))) (hn : 0 < n) (hx : xs.length = n) (hf : ∀ x, x ∈ xs → (Lit.int .u64 x).wf = true) (hm : n ≤ 1048576) :
    ∃ g cap, v = .slice (some ⟨g, 0, none⟩) n cap ∧ B ≤ g ∧ Own w g n ∧ Row w .u64 (some ⟨g, 0, none⟩) n xs := by
  rcases h.2 with ⟨_, h0⟩ | ⟨g, cap, cur, hv, hg, hh, _, _, _, ht⟩
  · omega
  · have hcell : ∀ i, (hi : i < n) → cur[i]? = some (.int .u64 (xs.getD i 0)) := by
      intro i hi
      have h1 : (cur.toList.take (n * 1))[i]? = (xs.map (Value.int .u64))[i]? := by rw [ht]
      rw [List.getElem?_take, if_pos (by omega), List.getElem?_map] at h1
      have h2 : i < xs.length := by omega
      simpa [h2] using h1
    refine ⟨g, cap, hv, hg, ⟨cur, hh, fun i hi => ⟨_, hcell i hi⟩⟩, hx, by simp only [maxLen]; omega, hf, fun _ => ⟨_, rfl, Lies.lt (t := 33) hh, fun i hi => ?_⟩⟩
    rw [show (Addr.mk g 0 none).add i = ⟨g, i, none⟩ by unfold Addr.add; split <;> simp_all]
    rw [Lies.cell (t := 33) hh i]
    exact hcell i hi

theorem Arena.drewN {w : World} {p c : Nat} {l : List Int} {k : Int} (h : Arena w p c l k) (n : Nat) : Arena (w.drewN n) p c l k := ⟨h.head, h.body, h.pos, h.most, h.fit, h.k0⟩
theorem Arena.drew {w : World} {p c : Nat} {l : List Int} {k : Int} (h : Arena w p c l k) : Arena w.drew p c l k := ⟨h.head, h.body, h.pos, h.most, h.fit, h.k0⟩

/-- own numbers that are written over: the arena, and what was there, is as it was. -/
def OverAt (w : World) (p c g n : Nat) (xs : List Int) (W : World) : Prop := Arena W p c xs 0 ∧ Own W g n ∧ Below w.heap.size w W
theorem OverAt.set {w : World} {p c g n : Nat} {xs : List Int} {W : World} (h : OverAt w p c g n xs W) (hg : w.heap.size ≤ g) (hp : g ≠ p) (hc : g ≠ c) (i : Nat) (x : Int) : OverAt w p c g n xs (W.setCell ⟨g, i, none⟩ (.int .u64 x)) :=
  ⟨h.1.turn (L := [g]) ((Turns.refl _ _).setCell (.inl (by simp)) _) (by simpa using hp.symm) (by simpa using hc.symm), h.2.1.set i x, h.2.2.setCell hg _⟩

theorem news_of {w w' : World} {ad : Addr} {n : Nat} {xs : List Int} (h : Row w .u64 (some ad) n xs) (g : Below w.heap.size w w') : ∀ j u, (xs.map (Value.int .u64))[j]? = some u → w'.cell? (ad.add j) = some u := by
  intro j u hu
  rw [List.getElem?_map] at hu
  obtain ⟨x, hx, rfl⟩ := Option.map_eq_some_iff.1 hu
  have hj : j < n := by rw [← h.len]; exact (List.getElem?_eq_some_iff.1 hx).1
  obtain ⟨a, ha, hb, hc⟩ := h.at_ (by omega)
  injection ha with ha
  subst ha
  rw [g.cell (by rw [add_block]; exact hb), hc j hj]
  simp [List.getD, hx]

theorem u64_info : (Try.prog.info? 33).map (fun i => (i.zero, i.size, i.bytes)) = some (some (.int .u64 0), 1, 8) := by kernel_rfl

/-- a copy of numbers: 'append([]uint64{}, l...)'. -/
theorem wpList_copied {ops : Array Oper} {rest : List Oper} {o : Oper} {a : Act} {Q : Exit → Act → World → Prop} {w0 w1 : World} {ad : Addr} {n cp : Nat} {xs : List Int} (hgd : o.guard = none) (s x : Operand)
    (ho : o.op = .call { callee := .builtin .append, args := #[s, x], argTypes := #[28, 28] })
    (hs : a.eval s = .slice (some ⟨w1.heap.size, 0, none⟩) 0 0) (hx : a.eval x = .slice (some ad) n cp) (hr : Row w0 .u64 (some ad) n xs) (hb : Below w0.heap.size w0 w1) (hn : 0 < n) (hm : n ≤ 1048576)
    (h : ∀ g cap w2, w1.heap.size ≤ g → Own w2 g n → Row w2 .u64 (some ⟨g, 0, none⟩) n xs → Below w1.heap.size w1 w2 → wpList Try.prog ops Q rest (a.put o.dst (.slice (some ⟨g, 0, none⟩) n cap)) w2) :
    wpList Try.prog ops Q (o :: rest) a (w1.alloc (.cells #[] 33)) := by
  obtain ⟨i0, hi0, hz0, hz1, hz2⟩ := info_parts u64_info
  have hnews := news_of (w' := w1.alloc (.cells #[] 33)) hr (hb.alloc hb.size _)
  have hown := World.ownsRow_made (base := w1.heap.size) (e := 33) (size := 1) w1 #[] 0 (Nat.le_refl _) (by simp [maxLen]) (by simp)
  refine wpList_append_own (w1.alloc (.cells #[] 33)) hgd s x 28 ho w1.heap.size 33 i0 _ 1 8 Try.underlying28 hi0 hz0 hz1 hz2 rfl (by omega) _ 0 [] hs hown ad n cp (xs.map (Value.int .u64)) hx (by simp [hr.len]) hnews (by simp [Value.oneCell']) (by simp only [maxLen]; omega) (by omega) (by simp) ?_
  intro v' w2 hown2 hgr _
  rw [Nat.zero_add, List.nil_append] at hown2
  obtain ⟨g, cap, rfl, hg, ho2, hr2⟩ := own_row hown2 (by omega) hr.len hr.wf hm
  exact h g cap w2 hg ho2 hr2 (((Below.refl _ _).alloc (Nat.le_refl _) _).grown hgr (by simp) (by simp [Value.ownBlock]))

set_option maxHeartbeats 1000000 in
theorem of_law (A : Option Addr) (n cp : Nat) (xs : List Int) (w : World) (hr : Row w .u64 A n xs) :
    Calls Try.prog 6 #[.slice A n cp] w fun e w' => e = .returned (.bool true) ∧ Below w.heap.size w w' := by
  have hmx := hr.most
  unfold maxLen at hmx
  obtain ⟨i0, hi0, hz0, hz1, hz2⟩ := info_parts u64_info
  rcases (by omega : n = 0 ∨ 1 ≤ n ∧ n ≤ 80 ∨ 80 < n) with rfl | ⟨h1, hlen⟩ | hlen
  · go_enter Try.func6, Try.ntmps6
    go_wp2_with fail
    refine (speaks_any _).mono ?_
    rintro e w1 ⟨rfl, hb1⟩
    go_wp2_with (first
      | (at_builtin
         refine wpList_append_zero rfl (.tmp 17) (.tmp 18) _ rfl 33 i0 Try.underlying28 hi0 _ 0 0 _ _ (Nat.le_refl _) rfl rfl ?_)
      | fail)
    refine (of_out _ _ _).mono ?_
    rintro e w2 ⟨rfl, rfl⟩
    go_wp2
    go_ret
    exact ⟨rfl, hb1.alloc hb1.size _⟩
  · have hne : ((n : Int) == 0) = false := beq_eq_false_iff_ne.2 (by omega)
    obtain ⟨ad, rfl, hab, hcell⟩ := hr.at_ (by omega)
    go_enter Try.func6, Try.ntmps6
    go_wp2_with fail
    refine (speaks_any _).mono ?_
    rintro e w1 ⟨rfl, hb1⟩
    have hp1 := hb1.size
    clear hcell
    go_wp2_with (first
      | (at_builtin
         refine wpList_copied rfl (.tmp 17) (.tmp 18) rfl rfl rfl hr hb1 (by omega) (by omega) ?_
         intro g cap w2 hg ho2 hr2 hb12)
      | fail)
    have hb2 := hb1.trans (hb12.mono hp1)
    refine (of_any _ _ _ _ _ hr2 (by omega) (by omega)).mono ?_
    rintro e w3 ⟨rfl, h3⟩
    have hp2 := hb2.size
    have hg2 := ho2.lt
    have hat : OverAt w (w2.heap.size + 1) w2.heap.size g n xs w3 := ⟨h3.1, ho2.keep h3.2 hg2, hb2.trans (h3.2.mono hp2)⟩
    clear ho2 hr2
    go_wp2_with fail
    refine (count_any h3.1).mono ?_
    rintro e w4 ⟨rfl, rfl⟩
    clear h3 hb12 hb2 hp2
    have hgp : g ≠ w2.heap.size + 1 := by omega
    have hgc : g ≠ w2.heap.size := by omega
    have hgw : w.heap.size ≤ g := by omega
    have hP : w.heap.size ≤ w2.heap.size := by omega
    generalize w2.heap.size = C at *
    go_wp2_with fail
    go_loopw [47] (fun i W => ∃ m : Nat, m ≤ n ∧ i = .int .i64 m ∧ OverAt w (C + 1) C g n xs W) (fun i _ => n - (intOf i).toNat)
    case atStart => exact ⟨0, by omega, rfl, hat⟩
    case round =>
      clear hat
      obtain ⟨m, hmn, rfl, hat⟩ := hrel
      by_cases hlt : m < n
      · obtain ⟨x, hc, hf⟩ := hat.2.1.at_ hlt
        go_wp2
        go_roundw
        case rel => exact ⟨m + 1, by omega, by go_num, hat.set hgw hgp hgc m _⟩
        case measure => simp [intOf]; omega
      · go_wp2_with fail
        refine (all_any _ _ _ _ _ hat.1).mono ?_
        rintro e w5 ⟨rfl, h5⟩
        rw [hr.len]
        have hb5 := hat.2.2.trans (h5.2.1.mono hat.2.2.size)
        have hr5 := hr.keep (Nat.le_refl _) hb5
        have ht5 := nums_row h5.1 hat.1.fit hat.1.most
        rw [hr.len] at ht5
        go_wp2_with fail
        refine (same_yes _ _ _ _ _ _ _ ht5 hr5).mono ?_
        rintro e w6 ⟨rfl, q, rfl⟩
        have hgp5 : wr.heap.size ≠ C + 1 := by have := hat.1.head.lt; omega
        have hgc5 : wr.heap.size ≠ C := by have := hat.1.body.lt; omega
        have hgw5 : w.heap.size ≤ wr.heap.size := hat.2.2.size
        have hat5 : OverAt w (C + 1) C wr.heap.size n xs (w5.drewN q) :=
          ⟨(hat.1.below h5.2.1 hat.1.head.lt hat.1.body.lt).drewN q, by have := Own.of h5.1; rw [hr.len] at this; exact this, ⟨hb5.os, hb5.tape, hb5.output, hb5.size, hb5.block⟩⟩
        clear hat h5 hb5 hr5 ht5
        generalize wr.heap.size = G at *
        generalize w5.drewN q = w7 at *
        go_wp2_with fail
        go_loopw [65] (fun i W => ∃ m : Nat, m ≤ n ∧ i = .int .i64 m ∧ OverAt w (C + 1) C G n xs W) (fun i _ => n - (intOf i).toNat)
        case atStart => exact ⟨0, by omega, rfl, hat5⟩
        case round =>
          clear hat5
          obtain ⟨m, hmn, rfl, hat⟩ := hrel
          by_cases hlt : m < n
          · obtain ⟨x, hc, hf⟩ := hat.2.1.at_ hlt
            go_wp2
            go_roundw
            case rel => exact ⟨m + 1, by omega, by go_num, hat.set hgw5 hgp5 hgc5 m _⟩
            case measure => simp [intOf]; omega
          · obtain ⟨j, hj⟩ : ∃ j, n = j + 1 := ⟨n - 1, by omega⟩
            obtain ⟨a', ha', hab', hcell⟩ := (hr.keep (Nat.le_refl _) hat.2.2).at_ (by omega)
            injection ha' with ha'
            subst ha'
            have hc := hcell j (by omega)
            clear hcell
            have HG := Lib.hid (hr.getA j (by omega))
            have hix : IntKind.i64.wrap ((n : Int) - 1) = j := by rw [IntKind.wrap_i64]; omega
            have hj0 : (0 : Int) ≤ j := by omega
            have hj1 : (j : Int) < n := by omega
            clear hj
            generalize xs.getD j 0 = x at *
            go_wp2_with fail
            go_region_held3 (fun W' => W'.cell? (ad.add j) = some (.int .u64 x)) (assumption)
              (first
                | (go_at_call 16
                   refine (all_any _ _ _ _ _ hat.1.drew).mono ?_
                   rintro e w8 ⟨rfl, h8⟩
                   rw [hr.len]
                   have c8 := (h8.2.1.cell (by rw [add_block]; exact hab')).trans hc
                   have ha8 := hat.1.drew.below h8.2.1 hat.1.head.lt hat.1.body.lt
                   have hb8 := hat.2.2.drew.trans (h8.2.1.mono hat.2.2.size))
                | (go_at_call 15
                   refine (same_yes _ _ _ _ _ xs _ (by have := nums_row h8.1 hat.1.fit hat.1.most; rw [hr.len] at this; exact this) (hr.keep (Nat.le_refl _) hb8)).mono ?_
                   rintro e w9 ⟨rfl, q, rfl⟩)
                | (go_at_call 14
                   refine (count_any (ha8.drewN q)).mono ?_
                   rintro e w10 ⟨rfl, rfl⟩)
                | (go_at_call 13
                   refine (len_any (ha8.drewN q)).mono ?_
                   rintro e w11 ⟨rfl, rfl⟩
                   rw [hr.len])
                | (go_at_call 19
                   refine (load_any _ (ha8.drewN q) (by omega)).mono ?_
                   rintro e w12 ⟨rfl, h12⟩
                   rw [← HG.out]
                   have c12 := (h12.2.cell (by rw [add_block]; exact Nat.lt_of_lt_of_le hab' (Nat.le_trans (Nat.le_refl _) h8.2.1.size)) (by rw [add_block]; simp; omega)).trans c8)
            )
            go_wp2
            go_ret
            exact ⟨rfl, (drawn hb8 q).trans (h12.2.below (by simp; omega) hb8.size)⟩
  · go_enter Try.func6, Try.ntmps6
    go_wp2_with fail
    refine (speaks_any _).mono ?_
    rintro e w1 ⟨rfl, hb1⟩
    go_wp2_with fail
    refine (speaks_any _).mono ?_
    rintro e w2 ⟨rfl, hb2⟩
    go_wp2
    go_ret
    exact ⟨rfl, hb1.trans (hb2.mono hb1.size)⟩

end Go.Proofs.Ytpikcfnfappdiaa
