/- Heads and links as numbers; the chain's functions that make no code. -/
import Derived.Test.YthkklcmmbpffiaaUE1
import Derived.Deep.RegionHeld3
import Derived.LoopN
namespace Go.Proofs.Ythkklcmmbpffiaa
open Go.RowKit

/-- a head's place and count; what a link tells; the head behind a turn. -/
def hIx (v : Int) : Int := v % 4294967296 - 1
def hCt (v : Int) : Int := v / 4294967296
def nxOf (v : Int) : Int := if 4294967295 < v then -1 else v - 1
def newH (v i : Int) : Int := ((hCt v + 1) % 4294967296) * 4294967296 + (i + 1)
/-- a number that a head can name, or none; that it can name. -/
def Ix0 (i : Int) : Prop := -1 ≤ i ∧ i ≤ 4294967294
def Ix (i : Int) : Prop := 0 ≤ i ∧ i ≤ 4294967294
theorem hIx_in {v : Int} : Ix0 (hIx v) := by unfold Ix0 hIx; omega
theorem hIx_ix {v : Int} (h : hIx v ≠ -1) : Ix (hIx v) := by have := hIx_in (v := v); unfold Ix0 at this; unfold Ix; omega
theorem hCt_in {v : Int} (h : N64 v) : 0 ≤ hCt v ∧ hCt v < 4294967296 := by unfold N64 at h; unfold hCt; omega
theorem nxOf_in {v : Int} (h : N64 v) : Ix0 (nxOf v) := by unfold N64 at h; unfold Ix0 nxOf; split <;> omega
theorem Ix.zero {i : Int} (h : Ix i) : Ix0 i := by unfold Ix at h; unfold Ix0; omega
theorem newH_in {v i : Int} (hi : Ix0 i) : N64 (newH v i) := by unfold Ix0 at hi; unfold N64 newH; omega
theorem N64.u {v : Int} (h : N64 v) : U64 v := h

theorem headof_g (v : Int) (hv : N64 v) (w : World) :
    Calls Try.prog 71 #[.int .u64 v] w fun e w' => e = .returned (.agg #[.int .i64 (hCt v), .int .i64 (hIx v)]) ∧ Turns [] w w' := by
  have h := hv
  unfold N64 at h
  have e1 : getW v 32 32 = hCt v := by
    have p : partB 32 32 = true := by decide
    unfold getW hCt
    rw [if_pos p, show pw 32 = 4294967296 from by decide]
    omega
  have e2 : getW v 0 32 - 1 = hIx v := by
    have p : partB 0 32 = true := by decide
    unfold getW hIx
    rw [if_pos p, show pw 32 = 4294967296 from by decide, show pw 0 = 1 from by decide]
    omega
  refine (head_of v w hv.u).mono ?_
  rintro e w' ⟨rfl, hb⟩
  rw [e1, e2]
  exact ⟨rfl, Turns.of_below hb (Nat.le_refl _)⟩

theorem hword_g (ct i : Int) (hc : 0 ≤ ct ∧ ct < 4294967296) (hi : Ix0 i) (w : World) :
    Calls Try.prog 102 #[.agg #[.int .i64 ct, .int .i64 i]] w fun e w' => e = .returned (.tuple #[.int .u64 (ct * 4294967296 + (i + 1)), .int .i64 0]) ∧ Turns [] w w' := by
  unfold Ix0 at hi
  have ew : wrap64 (i + 1) = i + 1 := by unfold wrap64; omega
  have p32 : pw 32 = 4294967296 := by decide
  have ok : okTo [ct, i + 1, 0, 0] headWs headWs.length := by
    intro j hj
    simp only [headWs, List.length_cons, List.length_nil] at hj
    rcases (by omega : j = 0 ∨ j = 1) with rfl | rfl
    · simp [headWs, p32]; omega
    · simp [headWs, p32]; omega
  refine (head_word ct i w ⟨by omega, by omega⟩).mono ?_
  rintro e w' ⟨rfl, hb⟩
  rw [ew, packW_ok ok, packE_ok ok]
  have e1 : packTo [ct, i + 1, 0, 0] headWs headWs.length = ct * 4294967296 + (i + 1) := by
    simp [headWs, packTo, p32]
  rw [e1]
  exact ⟨rfl, Turns.of_below hb (Nat.le_refl _)⟩

/-- what a cell tells that links a thing: none, if it is 0, or too great. -/
def lkd (v : Int) : Int := if 9223372036854775808 < v then -1 else v - 1
theorem lkd_in {v : Int} (h : N64 v) : -1 ≤ lkd v ∧ lkd v ≤ 9223372036854775807 := by unfold N64 at h; unfold lkd; split <;> omega
theorem lkd_nx {v : Int} (h : v ≤ 4294967295) : lkd v = nxOf v := by unfold lkd nxOf; rw [if_neg (by omega), if_neg (by omega)]

theorem linked_g (v : Int) (hv : N64 v) (w : World) :
    Calls Try.prog 99 #[.int .u64 v] w fun e w' => e = .returned (.int .i64 (lkd v)) ∧ w' = w := by
  unfold N64 at hv
  by_cases h0 : v = 0
  · subst h0
    have e : lkd 0 = -1 := by decide
    rw [e]
    go_enter Try.func99, Try.ntmps99
    go_wp2
    go_ret
    exact ⟨rfl, rfl⟩
  · have e1 : IntKind.u64.wrap (v - 1) = v - 1 := by rw [IntKind.wrap_u64]; omega
    by_cases h : 9223372036854775808 < v
    · have e : lkd v = -1 := if_pos h
      rw [e]
      go_enter Try.func99, Try.ntmps99
      go_wp2
      go_ret
      exact ⟨rfl, rfl⟩
    · have e : lkd v = v - 1 := if_neg h
      rw [e]
      have e2 : IntKind.i64.wrap (v - 1) = v - 1 := by rw [IntKind.wrap_i64]; omega
      go_enter Try.func99, Try.ntmps99
      go_wp2
      go_ret
      exact ⟨ret_int (by first | rfl | exact e2 | (try rw [e2]; go_num)), rfl⟩

/-- can a head name it? -/
def cnB (i : Int) : Bool := decide (i ≤ 4294967294)
theorem canname_g (i : Int) (hi : -1 ≤ i ∧ i ≤ 9223372036854775807) (w : World) :
    Calls Try.prog 94 #[.int .i64 i] w fun e w' => e = .returned (.bool (cnB i)) ∧ Turns [] w w' := by
  have p32 : pw 32 = 4294967296 := by decide
  have hw := fun W => head_word 0 i W ⟨by omega, by omega⟩
  have hE : packE [0, wrap64 (i + 1), 0, 0] headWs = if i ≤ 4294967294 then 0 else 2 := by
    by_cases h : i ≤ 4294967294
    · rw [if_pos h]
      have ew : wrap64 (i + 1) = i + 1 := by unfold wrap64; omega
      rw [ew]
      refine packE_ok ?_
      intro j hj
      simp only [headWs, List.length_cons, List.length_nil] at hj
      rcases (by omega : j = 0 ∨ j = 1) with rfl | rfl
      · simp [headWs, p32]
      · simp [headWs, p32]; omega
    · rw [if_neg h]
      refine packE_no fun ho => ?_
      have := ho 1 (by decide)
      simp [headWs, p32] at this
      unfold wrap64 at this
      omega
  rw [hE] at hw
  generalize packW [0, wrap64 (i + 1), 0, 0] headWs = x at *
  by_cases h : i ≤ 4294967294
  · have e : cnB i = true := by simp [cnB, h]
    rw [e]
    rw [if_pos h] at hw
    clear h hE
    go_enter Try.func94, Try.ntmps94
    go_wp2_with fail
    refine (hw _).mono ?_
    rintro e w' ⟨rfl, hb⟩
    go_wp2
    go_ret
    exact ⟨rfl, Turns.of_below hb (Nat.le_refl _)⟩
  · have e : cnB i = false := by simp [cnB, h]
    rw [e]
    rw [if_neg h] at hw
    clear h hE
    go_enter Try.func94, Try.ntmps94
    go_wp2_with fail
    refine (hw _).mono ?_
    rintro e w' ⟨rfl, hb⟩
    go_wp2
    go_ret
    exact ⟨rfl, Turns.of_below hb (Nat.le_refl _)⟩

theorem linkto_g (v : Int) (hv : Ix0 v) (w : World) :
    Calls Try.prog 97 #[.int .i64 v] w fun e w' => e = .returned (.int .u64 (v + 1)) ∧ w' = w := by
  unfold Ix0 at hv
  go_enter Try.func97, Try.ntmps97
  go_wp2
  go_ret
  first | exact ⟨rfl, rfl⟩ | exact ⟨ret_int (by go_num), rfl⟩

theorem field_head0 (a b : Int) (W : World) : (Instr.field 121 (.agg #[.int .i64 a, .int .i64 b]) 0).run Try.prog W = .ok (.int .i64 a) W := by kernel_rfl
theorem field_head1 (a b : Int) (W : World) : (Instr.field 121 (.agg #[.int .i64 a, .int .i64 b]) 1).run Try.prog W = .ok (.int .i64 b) W := by kernel_rfl

/-- a chain's value; its cells. -/
abbrev chV (p : Nat) (h : Int) (lf : FuncId) (lcap : Array Value) : Value := .agg #[ptr p, .int .i64 h, .func (.func lf) #[] lcap]
abbrev chC (p : Nat) (h : Int) (lf : FuncId) (lcap : Array Value) : Array Value := #[ptr p, .int .i64 h, .func (.func lf) #[] lcap]

/-- the cells of a chain that lies in memory. -/
theorem ch_cells {w : World} {b p : Nat} {h : Int} {lf : FuncId} {lcap : Array Value} (l : Lies w b 93 (chC p h lf lcap)) : w.cell? ⟨b, 0, none⟩ = some (ptr p) ∧ w.cell? ⟨b, 1, none⟩ = some (.int .i64 h) ∧ w.cell? ⟨b, 2, none⟩ = some (.func (.func lf) #[] lcap) := ⟨l.cell 0, l.cell 1, l.cell 2⟩

/-- are these all cells? -/
theorem arecells_g {p c : Nat} {l : List Int} {k : Int} {w : World} (A : Option Addr) (xs : List Int) (n cp : Nat) (ha : Arena w p c l k) (hr : Row w .i64 A n xs) :
    Calls Try.prog 95 #[ptr p, .slice A n cp] w fun e w' => e = .returned (.bool (xs.all (hasA l))) ∧ w' = w := by
  have hmx := hr.most
  have hn := hr.len
  unfold maxLen at hmx
  obtain ⟨bb, hbb⟩ : ∃ bb, xs.all (hasA l) = bb := ⟨_, rfl⟩
  rw [hbb]
  have HB := Lib.hid hbb
  clear hbb
  go_enter Try.func95, Try.ntmps95
  go_wp2_with fail
  go_loopw [6, 9] (fun _ j wr => ∃ m : Nat, j = .int .i64 (m : Int) ∧ m ≤ n ∧ wr = w ∧ ∀ i, i < m → hasA l (xs.getD i 0) = true) (fun _ j _ => n - (intOf j).toNat)
  case atStart => exact ⟨0, rfl, by omega, rfl, by omega⟩
  case round =>
    obtain ⟨m, rfl, hm, rfl, hall⟩ := hrel
    by_cases hlt : m < n
    · obtain ⟨a, rfl, _, hcell⟩ := hr.at_ (by omega)
      have hcx := hcell m hlt
      obtain ⟨x, hx⟩ : ∃ x, xs.getD m 0 = x := ⟨_, rfl⟩
      rw [hx] at hcx
      have hmem : x ∈ xs := by rw [← hx]; simp [List.getD, show m < xs.length by omega]
      have hno : hasA l x = false → bb = false := fun h => by
        rw [← HB.out]
        simp only [List.all_eq_false]
        exact ⟨x, hmem, by simp [h]⟩
      have hnext : hasA l x = true → ∀ i, i < m + 1 → hasA l (xs.getD i 0) = true := fun h i hi => by
        rcases Nat.lt_or_ge i m with h1 | h1
        · exact hall i h1
        · obtain rfl : i = m := by omega
          rw [hx]; exact h
      have HN := Lib.hid hno
      have HX := Lib.hid hnext
      clear hno hnext hall hcell hx hmem hr
      by_cases h0 : x < 0
      · have HF := Lib.hid (HN.out (by unfold hasA; simp; omega))
        go_wp2_with fail
        go_ret
        exact ⟨ret_bool HF.out.symm, rfl⟩
      · by_cases h1 : (l.length : Int) ≤ x
        · have HF := Lib.hid (HN.out (by unfold hasA; simp; omega))
          go_wp2_with fail
          refine (len_any ha).mono ?_
          rintro e w' ⟨rfl, rfl⟩
          go_wp2
          go_ret
          exact ⟨ret_bool HF.out.symm, rfl⟩
        · have HT := Lib.hid (HX.out (by rw [hasA_iff]; omega))
          go_wp2_with fail
          refine (len_any ha).mono ?_
          rintro e w' ⟨rfl, rfl⟩
          go_wp2
          go_roundw
          case rel => exact ⟨m + 1, by go_num, by omega, by trivial, HT.out⟩
          case measure => simp [intOf]; omega
    · obtain rfl : m = n := by omega
      have HF : Hid (bb = true) := Lib.hid (by
        rw [← HB.out, List.all_eq_true]
        intro y hy
        obtain ⟨i, hi, rfl⟩ := List.mem_iff_getElem.1 hy
        have := hall i (by omega)
        simpa [List.getD, hi] using this)
      clear hall
      go_wp2_with fail
      go_ret
      exact ⟨ret_bool HF.out.symm, rfl⟩

/-- two numbers in a block of their own. -/
theorem Row.two (w : World) (a b : Int) (ha : (Lit.int .i64 a).wf = true) (hb : (Lit.int .i64 b).wf = true) : Row (w.alloc (.cells #[.int .i64 a, .int .i64 b] 3)) .i64 (some ⟨w.heap.size, 0, none⟩) 2 [a, b] :=
  ⟨rfl, by simp [maxLen], by intro x hx; simp at hx; rcases hx with rfl | rfl <;> assumption, fun _ => ⟨_, rfl, by simp, fun i hi => by
    rw [Addr.add_mid, Nat.zero_add, (Lies.new w 3 #[.int .i64 a, .int .i64 b]).cell i]
    rcases (by omega : i = 0 ∨ i = 1) with rfl | rfl <;> rfl⟩⟩

end Go.Proofs.Ythkklcmmbpffiaa

/- The chain's code: Read, Next, Turn. -/
namespace Go.Proofs.Ythkklcmmbpffiaa
open Go.RowKit
set_option maxRecDepth 100000

theorem ent_read1 : Ent 92 := ent_of Try.func92 (by kernel_rfl) (by kernel_rfl)
theorem ent_next1 : Ent 104 := ent_of Try.func104 (by kernel_rfl) (by kernel_rfl)
theorem ent_take1 : Ent 93 := ent_of Try.func93 (by kernel_rfl) (by kernel_rfl)
theorem ent_lay1 : Ent 98 := ent_of Try.func98 (by kernel_rfl) (by kernel_rfl)
theorem hmf_run : ∀ (fn : Fn) (first cap : Array Value) (w : World), (Instr.makeFunc fn first cap).run Try.prog w = .ok (.func fn first cap) w := fun _ _ _ _ => rfl

section
variable {St Pr : Type} {M : Gm St Pr} {p c : Nat}

/-- the link function of a chain. -/
structure Gm.Lk (M : Gm St Pr) (w : World) (lf : FuncId) (lcap : Array Value) (lk : Int → Int) : Prop where
  ent : Ent lf
  run : ∀ w' i, Mv M.B (M.L ++ M.X) M.ws w w' → Ix i → Calls Try.prog lf (#[.int .i64 i] ++ lcap) w' fun e w'' => e = .returned (.int .i64 (lk i)) ∧ Turns [] w' w''
theorem Gm.Lk.mv {w w1 : World} {lf : FuncId} {lcap : Array Value} {lk : Int → Int} (h : M.Lk w lf lcap lk) (k : Mv M.B (M.L ++ M.X) M.ws w w1) : M.Lk w1 lf lcap lk := ⟨h.ent, fun w' i hw hi => h.run w' i (k.trans hw) hi⟩

theorem Gm.OkW.mvd {w w' : World} {s : St} {r : Nat} (hM : M.Ok) (_ : M.OkW w) (h : M.I r s w') : M.OkW w' := hM.okw _ _ _ h

variable {q : Pr} {m f b : Nat} {h : Int} {lf : FuncId} {lcap cap : Array Value} {lk : Int → Int} {w : World}

theorem read1_g (hM : M.Ok) {V : Int → St → Prop} {T : Int → St → Pr × St} (hE : Ent f) (x0 : M.Bx w b 117 #[.func (.func f) #[] cap]) (hT : M.Cont m f cap w (fun x s => N64 x ∧ V x s) (fun x => #[.int .u64 x, .int .i64 (hIx x)]) T) :
    M.Cont m 92 #[ptr b] w (fun x s => N64 x ∧ V x s) (fun x => #[.int .u64 x]) T := by
  intro n hn x w' s r hm hi hx
  have x0 := x0.mv hm
  have c0 := x0.cell
  have g0 := x0.lt
  have hw := hM.okj hi
  have ht : ∀ W, Turns [] w' W → M.Then f (#[.int .u64 x, .int .i64 (hIx x)] ++ cap) W fun v w'' => M.I r (T x s).2 w'' ∧ M.Code n (T x s).1 v w'' := fun W hW => hT n hn x W s r (hm.trans (hw.mv hM hW)) (hM.jmade hW hi) hx
  have hfr : ∀ W, Turns [] w' W → Fr M.L M.ws w' W := fun W hW => hw.fr hM hW
  have o0 := x0.out
  have q0 := x0.row
  clear hT hi hm x0
  generalize T x s = R at *
  show M.Then _ #[.int .u64 x, ptr b] w' _
  have ff1 := field_head1
  unfold Gm.Then Ent at *
  go_enter Try.func92, Try.ntmps92
  go_wp2_with fail
  go_region_held3 (fun W' => W'.cell? ⟨b, 0, none⟩ = some (.func (.func f) #[] cap))
    (first | exact c0 | exact d0 | exact u0)
    (first
      | (go_at_call 71
         refine (headof_g x hx.1 _).mono ?_
         rintro e w1 ⟨rfl, t0⟩
         have t1 : Turns [] w' w1 := ((Turns.refl [] w').drew).trans t0
         have d0 := (t1.cell (p := ⟨b, 0, none⟩) g0 (by simp)).trans c0)
      | (refine (ht _ t1).mono ?_
         rintro e w2 ⟨v, rfl, hq, t2⟩
         have t3 := (hfr _ t1).trans t2
         have u0 := (t3.cell (p := ⟨b, 0, none⟩) g0 o0 q0).trans c0))
  go_wp2
  go_ret
  exact ⟨v, rfl, hq, t3⟩

theorem read_g (A : M.Ar p c) (hM : M.Ok) {V : Int → St → Prop} (hV : ∀ s, A.ok (A.l s) → M.W q s → V (getA (A.l s) h) (A.put s (A.l s) (moreA (A.l s) h (A.k s)))) {T : Int → St → Pr × St} (hE : Ent f) (hw : M.OkW w) (hq : M.ended q = false) (hT : M.Cont m f cap w (fun x s => N64 x ∧ V x s) (fun x => #[.int .u64 x, .int .i64 (hIx x)]) T) (hs : ∀ s, M.step q s = T (getA (A.l s) h) (A.put s (A.l s) (moreA (A.l s) h (A.k s)))) :
    M.Makes m q 62 #[chV p h lf lcap, .func (.func f) #[] cap] w := by
  have hmf := hmf_run
  have k2 : Turns [] w ((w.alloc (.cells (chC p h lf lcap) 93)).alloc (.cells #[.func (.func f) #[] cap] 117)) := ((Turns.refl _ _).alloc _).alloc _
  have l0 : Lies ((w.alloc (.cells (chC p h lf lcap) 93)).alloc (.cells #[.func (.func f) #[] cap] 117)) w.heap.size 93 (chC p h lf lcap) := (Lies.new _ _ _).alloc _
  have l1 : Lies ((w.alloc (.cells (chC p h lf lcap) 93)).alloc (.cells #[.func (.func f) #[] cap] 117)) (w.heap.size + 1) 117 #[.func (.func f) #[] cap] := Lies.new_of _ _ (by simp)
  obtain ⟨c0, c1, _⟩ := ch_cells l0
  have hl := load_g (i := h) (f := 92) (cap := #[ptr (w.heap.size + 1)]) A hM hV ent_read1 (hw.made hM k2) hq (read1_g hM hE (hw.box hM k2 (by omega) l1 (by decide)) (hT.mv (hw.mv hM k2))) hs
  clear hT hs l0 l1
  unfold Gm.Makes at *
  go_enter Try.func62, Try.ntmps62
  go_upto_region 1 with (fail)
  generalize ((w.alloc (.cells (chC p h lf lcap) 93)).alloc (.cells #[.func (.func f) #[] cap] 117)) = w2 at *
  go_wp2_with fail
  refine hl.mono ?_
  rintro e w3 ⟨v, rfl, hc, t3⟩
  go_wp2
  go_ret
  exact ⟨v, rfl, hc, k2.trans t3⟩

theorem next1_g (hM : M.Ok) {V : Int → St → Prop} {T : Int → St → Pr × St} (hE : Ent f) (x0 : M.Bx w b 109 #[.func (.func f) #[] cap]) (hT : M.Cont m f cap w (fun x s => N64 x ∧ V x s) (fun x => #[.int .i64 (nxOf x)]) T) :
    M.Cont m 104 #[ptr b] w (fun x s => N64 x ∧ V x s) (fun x => #[.int .u64 x]) T := by
  intro n hn x w' s r hm hi hx
  have x0 := x0.mv hm
  have c0 := x0.cell
  have g0 := x0.lt
  have hw := hM.okj hi
  have ht : ∀ W, Turns [] w' W → M.Then f (#[.int .i64 (nxOf x)] ++ cap) W fun v w'' => M.I r (T x s).2 w'' ∧ M.Code n (T x s).1 v w'' := fun W hW => hT n hn x W s r (hm.trans (hw.mv hM hW)) (hM.jmade hW hi) hx
  have hfr : ∀ W, Turns [] w' W → Fr M.L M.ws w' W := fun W hW => hw.fr hM hW
  have o0 := x0.out
  have q0 := x0.row
  have hin := lkd_in hx.1
  clear hT hi hm x0
  generalize T x s = R at *
  show M.Then _ #[.int .u64 x, ptr b] w' _
  unfold Gm.Then Ent at *
  by_cases hcn : lkd x ≤ 4294967294
  · have hc : cnB (lkd x) = true := by simp [cnB, hcn]
    have e1 : nxOf x = lkd x := by
      have := hx.1
      unfold N64 at this
      unfold lkd at hcn ⊢
      unfold nxOf
      split at hcn
      · rw [if_pos (by omega), if_pos (by omega)]
      · rw [if_neg (by omega), if_neg (by omega)]
    have cnc := fun W => canname_g (lkd x) hin W
    rw [hc] at cnc
    rw [e1] at ht
    have hlk := fun W => linked_g x hx.1 W
    clear hin e1 hc
    generalize lkd x = y at *
    go_enter Try.func104, Try.ntmps104
    go_wp2_with fail
    refine (hlk _).mono ?_
    rintro e w1 ⟨rfl, rfl⟩
    go_wp2_with fail
    refine (cnc _).mono ?_
    rintro e w2 ⟨rfl, t1⟩
    have d0 := (t1.cell (p := ⟨b, 0, none⟩) g0 (by simp)).trans c0
    go_wp2_with fail
    refine (ht _ t1).mono ?_
    rintro e w3 ⟨v, rfl, hq, t2⟩
    have t3 := (hfr _ t1).trans t2
    go_wp2
    go_ret
    exact ⟨v, rfl, hq, t3⟩
  · have hc : cnB (lkd x) = false := by simp [cnB, hcn]
    have e1 : nxOf x = -1 := by
      have := hx.1
      unfold N64 at this
      unfold lkd at hcn
      unfold nxOf
      split at hcn
      · rw [if_pos (by omega)]
      · rw [if_pos (by omega)]
    have cnc := fun W => canname_g (lkd x) hin W
    rw [hc] at cnc
    rw [e1] at ht
    have hlk := fun W => linked_g x hx.1 W
    clear hin e1 hc
    generalize lkd x = y at *
    go_enter Try.func104, Try.ntmps104
    go_wp2_with fail
    refine (hlk _).mono ?_
    rintro e w1 ⟨rfl, rfl⟩
    go_wp2_with fail
    refine (cnc _).mono ?_
    rintro e w2 ⟨rfl, t1⟩
    have d0 := (t1.cell (p := ⟨b, 0, none⟩) g0 (by simp)).trans c0
    go_wp2_with fail
    refine (ht _ t1).mono ?_
    rintro e w3 ⟨v, rfl, hq, t2⟩
    have t3 := (hfr _ t1).trans t2
    go_wp2
    go_ret
    exact ⟨v, rfl, hq, t3⟩

theorem turn_g (A : M.Ar p c) (hM : M.Ok) {T : Bool → St → Pr × St} {old i : Int} (hO : ∀ l, A.ok l → A.ok (casA l h old (newH old i))) {D : Bool → St → Prop} (hD : ∀ s, A.ok (A.l s) → M.W q s → D (casB (A.l s) h old) (A.put s (casA (A.l s) h old (newH old i)) (moreA (A.l s) h (A.k s)))) (hE : Ent f) (hw : M.OkW w) (ho : N64 old) (hi : Ix0 i) (hq : M.ended q = false) (hT : M.Cont m f cap w D (fun b => #[.bool b]) T)
    (hs : ∀ s, M.step q s = T (casB (A.l s) h old) (A.put s (casA (A.l s) h old (newH old i)) (moreA (A.l s) h (A.k s)))) :
    M.Makes m q 83 #[chV p h lf lcap, .int .u64 old, .int .i64 i, .func (.func f) #[] cap] w := by
  have k1 : Turns [] w (w.alloc (.cells (chC p h lf lcap) 93)) := (Turns.refl _ _).alloc _
  have l0 : Lies (w.alloc (.cells (chC p h lf lcap) 93)) w.heap.size 93 (chC p h lf lcap) := Lies.new _ _ _
  have hc := hCt_in ho
  have cW := fun W => hword_g ((hCt old + 1) % 4294967296) i (by omega) hi W
  have cC := fun W (hW : Turns [] w W) => cas_g (i := h) (o := old) (x := newH old i) A hM hO hD hE (hw.made hM hW) (newH_in hi) hq (hT.mv (hw.mv hM hW)) hs
  have hnw : (hCt old + 1) % 4294967296 * 4294967296 + (i + 1) = newH old i := rfl
  rw [hnw] at cW
  have ff0 := field_head0
  clear hT hs hnw
  unfold Gm.Makes at *
  go_enter Try.func83, Try.ntmps83
  go_upto_region 1 with (fail)
  generalize (w.alloc (.cells (chC p h lf lcap) 93)) = w1 at *
  go_wp2_with fail
  refine (headof_g old ho _).mono ?_
  rintro e w2 ⟨rfl, t2⟩
  generalize newH old i = nh at *
  generalize hCt old = ct at *
  obtain ⟨c0, c1, _⟩ := ch_cells (l0.turn t2 (by simp))
  go_wp2_with fail
  refine (cW _).mono ?_
  rintro e w3 ⟨rfl, t3⟩
  have d0 := (t3.cell (p := ⟨w.heap.size, 0, none⟩) (by have := l0.lt; exact Nat.lt_of_lt_of_le this t2.size) (by simp)).trans c0
  have d1 := (t3.cell (p := ⟨w.heap.size, 1, none⟩) (by have := l0.lt; exact Nat.lt_of_lt_of_le this t2.size) (by simp)).trans c1
  have k3 := (k1.trans t2).trans t3
  clear c0 c1
  have cC := cC _ k3
  go_wp2_with fail
  refine cC.mono ?_
  rintro e w4 ⟨v, rfl, hc4, t4⟩
  go_wp2
  go_ret
  exact ⟨v, rfl, hc4, k3.trans t4⟩

theorem next_g (A : M.Ar p c) (hM : M.Ok) {V : Int → St → Prop} {T : Int → St → Pr × St} {i : Int} (hV : ∀ s, A.ok (A.l s) → M.W q s → V (getA (A.l s) (lk i)) (A.put s (A.l s) (moreA (A.l s) (lk i) (A.k s)))) (hE : Ent f) (hw : M.OkW w) (hL : M.Lk w lf lcap lk) (hi : Ix i) (hq : M.ended q = false) (hT : M.Cont m f cap w (fun x s => N64 x ∧ V x s) (fun x => #[.int .i64 (nxOf x)]) T)
    (hs : ∀ s, M.step q s = T (getA (A.l s) (lk i)) (A.put s (A.l s) (moreA (A.l s) (lk i) (A.k s)))) :
    M.Makes m q 85 #[chV p h lf lcap, .int .i64 i, .func (.func f) #[] cap] w := by
  have hmf := hmf_run
  have k2 : Turns [] w ((w.alloc (.cells (chC p h lf lcap) 93)).alloc (.cells #[.func (.func f) #[] cap] 109)) := ((Turns.refl _ _).alloc _).alloc _
  have l0 : Lies ((w.alloc (.cells (chC p h lf lcap) 93)).alloc (.cells #[.func (.func f) #[] cap] 109)) w.heap.size 93 (chC p h lf lcap) := (Lies.new _ _ _).alloc _
  have l1 : Lies ((w.alloc (.cells (chC p h lf lcap) 93)).alloc (.cells #[.func (.func f) #[] cap] 109)) (w.heap.size + 1) 109 #[.func (.func f) #[] cap] := Lies.new_of _ _ (by simp)
  have b1 := hw.box hM k2 (by omega) l1 (by decide)
  obtain ⟨W2, hW2⟩ : ∃ W2, ((w.alloc (.cells (chC p h lf lcap) 93)).alloc (.cells #[.func (.func f) #[] cap] 109)) = W2 := ⟨_, rfl⟩
  rw [hW2] at k2 l0 b1
  have cN : ∀ W, Turns [] W2 W → M.Makes m q 48 #[ptr p, .int .i64 (lk i), .func (.func 104) #[] #[ptr (w.heap.size + 1)]] W := fun W hW => load_g A hM hV ent_next1 ((hw.made hM k2).made hM hW) hq (next1_g hM hE (b1.mv ((hw.made hM k2).mv hM hW)) (hT.mv ((hw.mv hM k2).trans ((hw.made hM k2).mv hM hW)))) hs
  have cL := fun W (hW : Turns [] W2 W) => hL.run W i ((hw.mv hM k2).trans ((hw.made hM k2).mv hM hW)) hi
  have eL := hL.ent
  clear hT hs b1 l1
  obtain ⟨c0, c1, c2⟩ := ch_cells l0
  have g0 := l0.lt
  unfold Gm.Makes Ent at *
  go_enter Try.func85, Try.ntmps85
  go_upto_region 1 with (fail)
  clear hW2
  go_wp2_with fail
  go_region_held3 (fun W' => W'.cell? ⟨w.heap.size, 0, none⟩ = some (ptr p) ∧ W'.cell? ⟨w.heap.size, 2, none⟩ = some (.func (.func lf) #[] lcap))
    (first | exact ⟨c0, c2⟩ | exact ⟨d0, d2⟩ | exact ⟨u0, u2⟩)
    (first
      | (go_at_call 48
         refine (cN _ t1).mono ?_
         rintro e w4 ⟨v, rfl, hc4, t4⟩
         have t5 := t1.trans t4
         have u0 := (t5.cell (p := ⟨w.heap.size, 0, none⟩) g0 (by simp)).trans c0
         have u2 := (t5.cell (p := ⟨w.heap.size, 2, none⟩) g0 (by simp)).trans c2)
      | (refine (cL _ ((Turns.refl [] W2).drew)).mono ?_
         rintro e w3 ⟨rfl, t0⟩
         have t1 : Turns [] W2 w3 := ((Turns.refl [] W2).drew).trans t0
         have d0 := (t1.cell (p := ⟨w.heap.size, 0, none⟩) g0 (by simp)).trans c0
         have d2 := (t1.cell (p := ⟨w.heap.size, 2, none⟩) g0 (by simp)).trans c2))
  all_goals
    go_wp2
    go_ret
    exact ⟨v, rfl, hc4, k2.trans t5⟩
end


end Go.Proofs.Ythkklcmmbpffiaa

/- The chain's code: Take and Lay. -/
namespace Go.Proofs.Ythkklcmmbpffiaa
open Go.RowKit
set_option maxRecDepth 100000

section
variable {St Pr : Type} {M : Gm St Pr} {p c : Nat} {q : Pr} {m f b b1 b2 b3 : Nat} {h old i : Int} {lf : FuncId} {lcap cap : Array Value} {lk : Int → Int} {w : World}

theorem take1_g (A : M.Ar p c) (hM : M.Ok) {V : Int → Prop} {D : Bool → St → Prop} (hO : ∀ x, N64 x → V x → ∀ l, A.ok l → A.ok (casA l h old (newH old (nxOf x)))) {qT : Int → Pr} {T : Bool → St → Pr × St} (hD : ∀ y s, Ix0 y → A.ok (A.l s) → M.W (qT y) s → D (casB (A.l s) h old) (A.put s (casA (A.l s) h old (newH old y)) (moreA (A.l s) h (A.k s)))) (hE : Ent f) (x1 : M.Bx w b1 93 (chC p h lf lcap)) (x2 : M.Bx w b2 75 #[.int .u64 old]) (x3 : M.Bx w b3 103 #[.func (.func f) #[] cap])
    (ho : N64 old) (hq : ∀ y, M.ended (qT y) = false) (hT : M.Cont m f cap w D (fun b => #[.bool b]) T)
    (hs : ∀ y s, Ix0 y → M.step (qT y) s = T (casB (A.l s) h old) (A.put s (casA (A.l s) h old (newH old y)) (moreA (A.l s) h (A.k s)))) :
    M.Cont m 93 #[ptr b1, ptr b2, ptr b3] w (fun x _ => N64 x ∧ V x) (fun x => #[.int .i64 (nxOf x)]) (fun x s => (qT (nxOf x), s)) := by
  intro n hn x w' s r hm hi hx
  obtain ⟨c0, c1, c2⟩ := ch_cells (x1.mv hm).l
  have d0 := (x2.mv hm).cell
  have e0 := (x3.mv hm).cell
  have ht := (turn_g (m := n) (h := h) (lf := lf) (lcap := lcap) (i := nxOf x) A hM (hO x hx.1 hx.2) (fun s => hD _ s (nxOf_in hx.1)) hE (hM.okj hi) ho (nxOf_in hx.1) (hq _) ((hT.less (by omega)).mv hm) (fun s => hs _ s (nxOf_in hx.1))).then hM hi
  clear hT hi hm hs x1 x2 x3 hD
  show M.Then _ #[.int .i64 (nxOf x), ptr b1, ptr b2, ptr b3] w' (fun v w'' => M.I r s w'' ∧ M.Code n (qT (nxOf x)) v w'')
  generalize nxOf x = y at *
  unfold Gm.Then Ent at *
  go_enter Try.func93, Try.ntmps93
  go_wp2_with fail
  refine ht.mono ?_
  rintro e w2 ⟨v, rfl, hq, t2⟩
  go_wp2
  go_ret
  exact ⟨v, rfl, hq, t2⟩

theorem take_g (A : M.Ar p c) (hM : M.Ok) {V : Int → Prop} {D : Bool → St → Prop} (hV : ∀ l, A.ok l → V (getA l (lk (hIx old)))) (hO : ∀ x, N64 x → V x → ∀ l, A.ok l → A.ok (casA l h old (newH old (nxOf x)))) {qT : Int → Pr} {T : Bool → St → Pr × St} (hD : ∀ y s, Ix0 y → A.ok (A.l s) → M.W (qT y) s → D (casB (A.l s) h old) (A.put s (casA (A.l s) h old (newH old y)) (moreA (A.l s) h (A.k s)))) (hE : Ent f) (hw : M.OkW w) (hL : M.Lk w lf lcap lk) (ho : N64 old) (hi : hIx old ≠ -1) (hq : M.ended q = false) (hqT : ∀ y, M.ended (qT y) = false)
    (hT : M.Cont m f cap w D (fun b => #[.bool b]) T)
    (hs : ∀ s, M.step q s = (qT (nxOf (getA (A.l s) (lk (hIx old)))), A.put s (A.l s) (moreA (A.l s) (lk (hIx old)) (A.k s))))
    (hs2 : ∀ y s, Ix0 y → M.step (qT y) s = T (casB (A.l s) h old) (A.put s (casA (A.l s) h old (newH old y)) (moreA (A.l s) h (A.k s)))) :
    M.Makes m q 64 #[chV p h lf lcap, .int .u64 old, .func (.func f) #[] cap] w := by
  have hmf := hmf_run
  have ff1 := field_head1
  obtain ⟨W2, hW2⟩ : ∃ W2, (((w.alloc (.cells (chC p h lf lcap) 93)).alloc (.cells #[.int .u64 old] 75)).alloc (.cells #[.func (.func f) #[] cap] 103)) = W2 := ⟨_, rfl⟩
  have k2 : Turns [] w W2 := by rw [← hW2]; exact (((Turns.refl _ _).alloc _).alloc _).alloc _
  have l0 : Lies W2 w.heap.size 93 (chC p h lf lcap) := by rw [← hW2]; exact ((Lies.new _ _ _).alloc _).alloc _
  have l1 : Lies W2 (w.heap.size + 1) 75 #[.int .u64 old] := by rw [← hW2]; exact (Lies.new_of _ _ (by simp)).alloc _
  have l2 : Lies W2 (w.heap.size + 1 + 1) 103 #[.func (.func f) #[] cap] := by rw [← hW2]; exact Lies.new_of _ _ (by simp)
  have x0 := hw.box hM k2 (by omega) l0 (by decide)
  have x1 := hw.box hM k2 (by omega) l1 (by decide)
  have x2 := hw.box hM k2 (by omega) l2 (by decide)
  have hw2 := hw.made hM k2
  have hm2 := hw.mv hM k2
  have cN : ∀ W, Turns [] W2 W → M.Makes m q 85 #[chV p h lf lcap, .int .i64 (hIx old), .func (.func 93) #[] #[ptr w.heap.size, ptr (w.heap.size + 1), ptr (w.heap.size + 1 + 1)]] W := fun W hW =>
    next_g (h := h) (V := fun x _ => V x) A hM (fun s hs _ => hV _ hs) ent_take1 (hw2.made hM hW) ((hL.mv hm2).mv (hw2.mv hM hW)) (hIx_ix hi) hq (take1_g A hM hO hD hE (x0.mv (hw2.mv hM hW)) (x1.mv (hw2.mv hM hW)) (x2.mv (hw2.mv hM hW)) ho hqT ((hT.mv hm2).mv (hw2.mv hM hW)) hs2) hs
  have eo := ho
  clear hT hs hs2 x0 x1 x2 hw2 hm2
  obtain ⟨c0, c1, c2⟩ := ch_cells l0
  have d0 : W2.cell? ⟨w.heap.size + 1, 0, none⟩ = some (.int .u64 old) := l1.cell 0
  have g0 := l0.lt
  have g1 := l1.lt
  unfold Gm.Makes Ent at *
  go_enter Try.func64, Try.ntmps64
  go_upto_region 1 with (fail)
  clear hW2
  go_wp2_with fail
  go_region_held3 (fun W' => W'.cell? ⟨w.heap.size, 0, none⟩ = some (ptr p) ∧ W'.cell? ⟨w.heap.size, 1, none⟩ = some (.int .i64 h) ∧ W'.cell? ⟨w.heap.size, 2, none⟩ = some (.func (.func lf) #[] lcap) ∧ W'.cell? ⟨w.heap.size + 1, 0, none⟩ = some (.int .u64 old))
    (first | exact ⟨c0, c1, c2, d0⟩ | exact ⟨u0, u1, u2, u3⟩ | exact ⟨v0, v1, v2, v3⟩)
    (first
      | (go_at_call 71
         refine (headof_g old eo _).mono ?_
         rintro e w3 ⟨rfl, t0⟩
         have t1 : Turns [] W2 w3 := ((Turns.refl [] W2).drew).trans t0
         have u0 := (t1.cell (p := ⟨w.heap.size, 0, none⟩) g0 (by simp)).trans c0
         have u1 := (t1.cell (p := ⟨w.heap.size, 1, none⟩) g0 (by simp)).trans c1
         have u2 := (t1.cell (p := ⟨w.heap.size, 2, none⟩) g0 (by simp)).trans c2
         have u3 := (t1.cell (p := ⟨w.heap.size + 1, 0, none⟩) g1 (by simp)).trans d0)
      | (go_at_call 85
         refine (cN _ t1).mono ?_
         rintro e w4 ⟨v, rfl, hc4, t4⟩
         have t5 := t1.trans t4
         have v0 := (t5.cell (p := ⟨w.heap.size, 0, none⟩) g0 (by simp)).trans c0
         have v1 := (t5.cell (p := ⟨w.heap.size, 1, none⟩) g0 (by simp)).trans c1
         have v2 := (t5.cell (p := ⟨w.heap.size, 2, none⟩) g0 (by simp)).trans c2
         have v3 := (t5.cell (p := ⟨w.heap.size + 1, 0, none⟩) g1 (by simp)).trans d0))
  all_goals
    go_wp2
    go_ret
    exact ⟨v, rfl, hc4, k2.trans t5⟩

theorem lay1_g (A : M.Ar p c) (hM : M.Ok) (hO : ∀ l, A.ok l → A.ok (casA l h old (newH old i))) {qT : Pr} {D : Bool → St → Prop} {T : Bool → St → Pr × St} (hD : ∀ s, A.ok (A.l s) → M.W qT s → D (casB (A.l s) h old) (A.put s (casA (A.l s) h old (newH old i)) (moreA (A.l s) h (A.k s)))) (hE : Ent f) (x0 : M.Bx w b 93 (chC p h lf lcap)) (x1 : M.Bx w b1 75 #[.int .u64 old]) (x2 : M.Bx w b2 3 #[.int .i64 i]) (x3 : M.Bx w b3 103 #[.func (.func f) #[] cap])
    (ho : N64 old) (hi0 : Ix0 i) (hq : M.ended qT = false) (hT : M.Cont m f cap w D (fun b => #[.bool b]) T)
    (hs : ∀ s, M.step qT s = T (casB (A.l s) h old) (A.put s (casA (A.l s) h old (newH old i)) (moreA (A.l s) h (A.k s)))) :
    M.Cont m 98 #[ptr b, ptr b1, ptr b2, ptr b3] w (fun (_ : Unit) _ => True) (fun _ => #[]) (fun _ s => (qT, s)) := by
  intro n hn x w' s r hm hi hx
  obtain ⟨c0, c1, c2⟩ := ch_cells (x0.mv hm).l
  have d0 := (x1.mv hm).cell
  have e0 := (x2.mv hm).cell
  have f0 := (x3.mv hm).cell
  have ht := (turn_g (m := n) (h := h) (lf := lf) (lcap := lcap) (i := i) A hM hO hD hE (hM.okj hi) ho hi0 hq ((hT.less (by omega)).mv hm) hs).then hM hi
  clear hT hi hm hs x0 x1 x2 x3
  show M.Then _ #[ptr b, ptr b1, ptr b2, ptr b3] w' _
  unfold Gm.Then Ent at *
  go_enter Try.func98, Try.ntmps98
  go_wp2_with fail
  refine ht.mono ?_
  rintro e w2 ⟨v, rfl, hq, t2⟩
  go_wp2
  go_ret
  exact ⟨v, rfl, hq, t2⟩

theorem lay_g (A : M.Ar p c) (hM : M.Ok) (hO1 : ∀ l, A.ok l → A.ok (setA l (lk i) (hIx old + 1))) (hO : ∀ l, A.ok l → A.ok (casA l h old (newH old i))) {qT : Pr} {D : Bool → St → Prop} {T : Bool → St → Pr × St} (hD : ∀ s, A.ok (A.l s) → M.W qT s → D (casB (A.l s) h old) (A.put s (casA (A.l s) h old (newH old i)) (moreA (A.l s) h (A.k s)))) (hE : Ent f) (hw : M.OkW w) (hL : M.Lk w lf lcap lk) (ho : N64 old) (hi : Ix i) (hq : M.ended q = false) (hqT : M.ended qT = false)
    (hT : M.Cont m f cap w D (fun b => #[.bool b]) T)
    (hs : ∀ s, M.step q s = (qT, A.put s (setA (A.l s) (lk i) (hIx old + 1)) (moreA (A.l s) (lk i) (A.k s))))
    (hs2 : ∀ s, M.step qT s = T (casB (A.l s) h old) (A.put s (casA (A.l s) h old (newH old i)) (moreA (A.l s) h (A.k s)))) :
    M.Makes m q 68 #[chV p h lf lcap, .int .u64 old, .int .i64 i, .func (.func f) #[] cap] w := by
  have hmf := hmf_run
  have ff1 := field_head1
  obtain ⟨W2, hW2⟩ : ∃ W2, ((((w.alloc (.cells (chC p h lf lcap) 93)).alloc (.cells #[.int .u64 old] 75)).alloc (.cells #[.int .i64 i] 3)).alloc (.cells #[.func (.func f) #[] cap] 103)) = W2 := ⟨_, rfl⟩
  have k2 : Turns [] w W2 := by rw [← hW2]; exact ((((Turns.refl _ _).alloc _).alloc _).alloc _).alloc _
  have l0 : Lies W2 w.heap.size 93 (chC p h lf lcap) := by rw [← hW2]; exact (((Lies.new _ _ _).alloc _).alloc _).alloc _
  have l1 : Lies W2 (w.heap.size + 1) 75 #[.int .u64 old] := by rw [← hW2]; exact ((Lies.new_of _ _ (by simp)).alloc _).alloc _
  have l2 : Lies W2 (w.heap.size + 1 + 1) 3 #[.int .i64 i] := by rw [← hW2]; exact (Lies.new_of _ _ (by simp)).alloc _
  have l3 : Lies W2 (w.heap.size + 1 + 1 + 1) 103 #[.func (.func f) #[] cap] := by rw [← hW2]; exact Lies.new_of _ _ (by simp)
  have x0 := hw.box hM k2 (by omega) l0 (by decide)
  have x1 := hw.box hM k2 (by omega) l1 (by decide)
  have x2 := hw.box hM k2 (by omega) l2 (by decide)
  have x3 := hw.box hM k2 (by omega) l3 (by decide)
  have hw2 := hw.made hM k2
  have hm2 := hw.mv hM k2
  have hx1 : N64 (hIx old + 1) := by have := hIx_in (v := old); unfold Ix0 at this; unfold N64; omega
  have cN : ∀ W, Turns [] W2 W → M.Makes m q 96 #[ptr p, .int .i64 (lk i), .int .u64 (hIx old + 1), .func (.func 98) #[] #[ptr w.heap.size, ptr (w.heap.size + 1), ptr (w.heap.size + 1 + 1), ptr (w.heap.size + 1 + 1 + 1)]] W := fun W hW =>
    store_g (D := fun _ => True) A hM hO1 (fun _ _ _ => trivial) ent_lay1 (hw2.made hM hW) hx1 hq (lay1_g A hM hO hD hE (x0.mv (hw2.mv hM hW)) (x1.mv (hw2.mv hM hW)) (x2.mv (hw2.mv hM hW)) (x3.mv (hw2.mv hM hW)) ho hi.zero hqT ((hT.mv hm2).mv (hw2.mv hM hW)) hs2) hs
  have cL := fun W (hW : Turns [] W2 W) => hL.run W i (hm2.trans (hw2.mv hM hW)) hi
  have eL := hL.ent
  have eo := ho
  have hin := hIx_in (v := old)
  clear hT hs hs2 x0 x1 x2 x3 hw2 hm2
  obtain ⟨c0, c1, c2⟩ := ch_cells l0
  have d0 : W2.cell? ⟨w.heap.size + 1, 0, none⟩ = some (.int .u64 old) := l1.cell 0
  have e0 : W2.cell? ⟨w.heap.size + 1 + 1, 0, none⟩ = some (.int .i64 i) := l2.cell 0
  have g0 := l0.lt
  have g1 := l1.lt
  have g2 := l2.lt
  unfold Gm.Makes Ent at *
  go_enter Try.func68, Try.ntmps68
  go_upto_region 1 with (fail)
  clear hW2
  go_wp2_with fail
  go_region_held3 (fun W' => W'.cell? ⟨w.heap.size, 0, none⟩ = some (ptr p) ∧ W'.cell? ⟨w.heap.size, 2, none⟩ = some (.func (.func lf) #[] lcap) ∧ W'.cell? ⟨w.heap.size + 1, 0, none⟩ = some (.int .u64 old) ∧ W'.cell? ⟨w.heap.size + 1 + 1, 0, none⟩ = some (.int .i64 i))
    (first | exact ⟨c0, c2, d0, e0⟩ | exact ⟨u0, u1, u2, u3⟩ | exact ⟨v0, v1, v2, v3⟩ | exact ⟨z0, z1, z2, z3⟩)
    (first
      | (go_at_call 71
         refine (headof_g old eo _).mono ?_
         rintro e w4 ⟨rfl, t4⟩
         have t5 := t1.trans t4
         have v0 := (t5.cell (p := ⟨w.heap.size, 0, none⟩) g0 (by simp)).trans c0
         have v1 := (t5.cell (p := ⟨w.heap.size, 2, none⟩) g0 (by simp)).trans c2
         have v2 := (t5.cell (p := ⟨w.heap.size + 1, 0, none⟩) g1 (by simp)).trans d0
         have v3 := (t5.cell (p := ⟨w.heap.size + 1 + 1, 0, none⟩) g2 (by simp)).trans e0)
      | (go_at_call 97
         refine (linkto_g (hIx old) hin _).mono ?_
         rintro e w5 ⟨rfl, rfl⟩)
      | (go_at_call 96
         refine (cN _ t5).mono ?_
         rintro e w6 ⟨v, rfl, hc6, t6⟩
         have t7 := t5.trans t6
         have z0 := (t7.cell (p := ⟨w.heap.size, 0, none⟩) g0 (by simp)).trans c0
         have z1 := (t7.cell (p := ⟨w.heap.size, 2, none⟩) g0 (by simp)).trans c2
         have z2 := (t7.cell (p := ⟨w.heap.size + 1, 0, none⟩) g1 (by simp)).trans d0
         have z3 := (t7.cell (p := ⟨w.heap.size + 1 + 1, 0, none⟩) g2 (by simp)).trans e0)
      | (refine (cL _ ((Turns.refl [] W2).drew)).mono ?_
         rintro e w3 ⟨rfl, t0⟩
         have t1 : Turns [] W2 w3 := ((Turns.refl [] W2).drew).trans t0
         have u0 := (t1.cell (p := ⟨w.heap.size, 0, none⟩) g0 (by simp)).trans c0
         have u1 := (t1.cell (p := ⟨w.heap.size, 2, none⟩) g0 (by simp)).trans c2
         have u2 := (t1.cell (p := ⟨w.heap.size + 1, 0, none⟩) g1 (by simp)).trans d0
         have u3 := (t1.cell (p := ⟨w.heap.size + 1 + 1, 0, none⟩) g2 (by simp)).trans e0))
  all_goals
    go_wp2
    go_ret
    exact ⟨v, rfl, hc6, k2.trans t7⟩
end

end Go.Proofs.Ythkklcmmbpffiaa

/- The stack's code: Pop and Push. -/
namespace Go.Proofs.Ythkklcmmbpffiaa
open Go.RowKit
set_option maxRecDepth 100000

theorem ent_pop1 : Ent 63 := ent_of Try.func63 (by kernel_rfl) (by kernel_rfl)
theorem ent_pop11 : Ent 65 := ent_of Try.func65 (by kernel_rfl) (by kernel_rfl)
theorem ent_push1 : Ent 67 := ent_of Try.func67 (by kernel_rfl) (by kernel_rfl)
theorem ent_push11 : Ent 69 := ent_of Try.func69 (by kernel_rfl) (by kernel_rfl)

section
variable {St Pr : Type} {M : Gm St Pr} {p c : Nat}

/-- what heads (V), links (U) and things (Y) there may be, as long as the arena's numbers are as they may be. -/
structure Gm.ChOk (A : M.Ar p c) (h : Int) (lk : Int → Int) (V U Y : Int → Prop) : Prop where
  hd : ∀ l, A.ok l → V (getA l h)
  nx : ∀ l o, A.ok l → V o → hIx o ≠ -1 → U (getA l (lk (hIx o)))
  tk : ∀ l o x, A.ok l → N64 o → V o → hIx o ≠ -1 → N64 x → U x → A.ok (casA l h o (newH o (nxOf x)))
  ly : ∀ l o i, A.ok l → V o → Y i → A.ok (setA l (lk i) (hIx o + 1))
  tn : ∀ l o i, A.ok l → N64 o → V o → Y i → A.ok (casA l h o (newH o i))
  ix : ∀ i, Y i → Ix i
  room : ∀ l i, A.ok l → Y i → hasA l h = true ∧ hasA l (lk i) = true

/-- what a Pop does, step by step: it is to read the head, the link, to turn the head. -/
structure Gm.PopQ (A : M.Ar p c) (h : Int) (lk : Int → Int) (qR : Pr) (qN : Int → Pr) (qT : Int → Int → Pr) (E : Int → Bool → St → Prop) (T : Int → Bool → St → Pr × St) : Prop where
  eR : M.ended qR = false
  eN : ∀ o, M.ended (qN o) = false
  eT : ∀ o y, M.ended (qT o y) = false
  sR : ∀ s, M.step qR s = if hIx (getA (A.l s) h) = -1 then T (-1) false (A.put s (A.l s) (moreA (A.l s) h (A.k s))) else (qN (getA (A.l s) h), A.put s (A.l s) (moreA (A.l s) h (A.k s)))
  sN : ∀ o s, M.step (qN o) s = (qT o (nxOf (getA (A.l s) (lk (hIx o)))), A.put s (A.l s) (moreA (A.l s) (lk (hIx o)) (A.k s)))
  sT : ∀ o y s, M.step (qT o y) s = if casB (A.l s) h o = true then T (hIx o) true (A.put s (casA (A.l s) h o (newH o y)) (moreA (A.l s) h (A.k s))) else (qR, A.put s (casA (A.l s) h o (newH o y)) (moreA (A.l s) h (A.k s)))

  /-- what then may ask of the state. -/
  wR : ∀ s, A.ok (A.l s) → M.W qR s → hIx (getA (A.l s) h) = -1 → E (-1) false (A.put s (A.l s) (moreA (A.l s) h (A.k s)))
  wT : ∀ o y s, A.ok (A.l s) → M.W (qT o y) s → casB (A.l s) h o = true → E (hIx o) true (A.put s (casA (A.l s) h o (newH o y)) (moreA (A.l s) h (A.k s)))

/-- what a Pop may tell. -/
def PopD (V : Int → Prop) (x : Int × Bool) : Prop := (x.2 = true → ∃ o, N64 o ∧ V o ∧ hIx o ≠ -1 ∧ x.1 = hIx o) ∧ (x.2 = false → x.1 = -1)

variable {m f b b1 b2 b3 : Nat} {h old i : Int} {lf : FuncId} {lcap cap : Array Value} {lk : Int → Int} {w : World} {qR : Pr} {qN : Int → Pr} {qT : Int → Int → Pr} {T : Int → Bool → St → Pr × St} {V U Y : Int → Prop} {E : Int → Bool → St → Prop}

/-- a stack's value is its chain's. -/
theorem pop11_g (hM : M.Ok) (hE : Ent f) (hi : ∃ o, N64 o ∧ V o ∧ hIx o ≠ -1 ∧ i = hIx o) (x0 : M.Bx w b 27 (chC p h lf lcap)) (x1 : M.Bx w b1 91 #[.func (.func f) #[] cap]) (x2 : M.Bx w b2 3 #[.int .i64 i])
    (hT : M.Cont m f cap w (fun x s => PopD V x ∧ E x.1 x.2 s) (fun x => #[.int .i64 x.1, .bool x.2]) (fun x => T x.1 x.2))
    (ih : ∀ n, n < m → ∀ w', Mv M.B (M.L ++ M.X) M.ws w w' → M.OkW w' → M.Makes n qR 39 #[chV p h lf lcap, .func (.func f) #[] cap] w') :
    M.Cont m 65 #[ptr b, ptr b1, ptr b2] w (fun b s => b = true → E i true s) (fun b => #[.bool b]) (fun b s => if b = true then T i true s else (qR, s)) := by
  intro n hn x w' s r hm hj hd
  have l0 := (x0.mv hm).l
  have c0 : w'.cell? ⟨b, 0, none⟩ = some (ptr p) := l0.cell 0
  have c1 : w'.cell? ⟨b, 1, none⟩ = some (.int .i64 h) := l0.cell 1
  have c2 : w'.cell? ⟨b, 2, none⟩ = some (.func (.func lf) #[] lcap) := l0.cell 2
  have d0 := (x1.mv hm).cell
  have e0 := (x2.mv hm).cell
  cases x with
  | false =>
    have ht := (ih n hn w' hm (hM.okj hj)).then hM hj
    clear hT hj hm ih x0 x1 x2 l0
    show M.Then _ #[.bool false, ptr b, ptr b1, ptr b2] w' (fun v w'' => M.I r s w'' ∧ M.Code n qR v w'')
    unfold Gm.Then Ent at *
    go_enter Try.func65, Try.ntmps65
    go_wp2_with fail
    refine ht.mono ?_
    rintro e w2 ⟨v, rfl, hq, t2⟩
    go_wp2
    go_ret
    exact ⟨v, rfl, hq, t2⟩
  | true =>
    have ht : M.Then f (#[.int .i64 i, .bool true] ++ cap) w' fun v w'' => M.I r (T i true s).2 w'' ∧ M.Code n (T i true s).1 v w'' := hT n hn (i, true) w' s r hm hj ⟨⟨fun _ => hi, fun e => absurd e (by simp)⟩, hd rfl⟩
    clear hT hj hm ih x0 x1 x2 l0
    show M.Then _ #[.bool true, ptr b, ptr b1, ptr b2] w' (fun v w'' => M.I r (T i true s).2 w'' ∧ M.Code n (T i true s).1 v w'')
    generalize T i true s = R at *
    unfold Gm.Then Ent at *
    go_enter Try.func65, Try.ntmps65
    go_wp2_with fail
    refine ht.mono ?_
    rintro e w2 ⟨v, rfl, hq, t2⟩
    go_wp2
    go_ret
    exact ⟨v, rfl, hq, t2⟩

theorem pop1_g (A : M.Ar p c) (hM : M.Ok) (hC : Gm.ChOk A h lk V U Y) (hQ : Gm.PopQ A h lk qR qN qT E T) (hE : Ent f) (hL : M.Lk w lf lcap lk) (x0 : M.Bx w b 91 #[.func (.func f) #[] cap]) (x1 : M.Bx w b1 93 (chC p h lf lcap)) (x2 : M.Bx w b2 27 (chC p h lf lcap))
    (hT : M.Cont m f cap w (fun x s => PopD V x ∧ E x.1 x.2 s) (fun x => #[.int .i64 x.1, .bool x.2]) (fun x => T x.1 x.2))
    (ih : ∀ n, n < m → ∀ w', Mv M.B (M.L ++ M.X) M.ws w w' → M.OkW w' → M.Makes n qR 39 #[chV p h lf lcap, .func (.func f) #[] cap] w') :
    M.Cont m 63 #[ptr b, ptr b1, ptr b2] w (fun x s => N64 x ∧ (V x ∧ (hIx x = -1 → E (-1) false s))) (fun x => #[.int .u64 x, .int .i64 (hIx x)]) (fun x s => if hIx x = -1 then T (-1) false s else (qN x, s)) := by
  intro n hn x w' s r hm hj hx
  have hw := hM.okj hj
  have tu : Turns [] w' (w'.alloc (.cells #[.int .i64 (hIx x)] 3)) := (Turns.refl _ _).alloc _
  have lF : Lies (w'.alloc (.cells #[.int .i64 (hIx x)] 3)) w'.heap.size 3 #[.int .i64 (hIx x)] := Lies.new _ _ _
  have x3 := hw.box hM tu (Nat.le_refl _) lF (by decide)
  have hw2 := hw.made hM tu
  have hm2 := hm.trans (hw.mv hM tu)
  have x0 := x0.mv hm2
  have x1 := x1.mv hm2
  have x2 := x2.mv hm2
  obtain ⟨c0, c1, c2⟩ := ch_cells x1.l
  have d0 := x0.cell
  have e0 := x3.cell
  have fr := hw.fr hM tu
  have hmf := hmf_run
  by_cases hz : hIx x = -1
  · have ht : M.Then f (#[.int .i64 (-1), .bool false] ++ cap) (w'.alloc (.cells #[.int .i64 (hIx x)] 3)) fun v w'' => M.I r (T (-1) false s).2 w'' ∧ M.Code n (T (-1) false s).1 v w'' := hT n hn (-1, false) _ s r hm2 (hM.jmade tu hj) ⟨⟨fun e => absurd e (by simp), fun _ => rfl⟩, hx.2.2 hz⟩
    clear hT hj hm hm2 ih x0 x1 x2 x3 lF
    have hg : M.Then 63 #[.int .u64 x, .int .i64 (hIx x), ptr b, ptr b1, ptr b2] w' (fun v w'' => M.I r (T (-1) false s).2 w'' ∧ M.Code n (T (-1) false s).1 v w'') := by
      generalize T (-1) false s = R at *
      generalize hIx x = y at *
      subst hz
      unfold Gm.Then Ent at *
      go_enter Try.func63, Try.ntmps63
      go_wp2_with fail
      refine ht.mono ?_
      rintro e w2 ⟨v, rfl, hq, t2⟩
      go_wp2
      go_ret
      exact ⟨v, rfl, hq, fr.trans t2⟩
    refine hg.mono fun v w'' hh => ?_
    show M.I r (if hIx x = -1 then T (-1) false s else (qN x, s)).2 w'' ∧ M.Code n (if hIx x = -1 then T (-1) false s else (qN x, s)).1 v w''
    rw [if_pos hz]
    exact hh
  · have hi : ∃ o, N64 o ∧ V o ∧ hIx o ≠ -1 ∧ hIx x = hIx o := ⟨x, hx.1, hx.2.1, hz, rfl⟩
    have ht := (take_g (m := n) (f := 65) (cap := #[ptr b2, ptr b, ptr w'.heap.size]) (T := fun bb s => if bb = true then T (hIx x) true s else (qR, s)) A hM (fun l hl => hC.nx l x hl hx.2.1 hz) (fun y h1 h2 l hl => hC.tk l x y hl hx.1 hx.2.1 hz h1 h2) (D := fun b s => b = true → E (hIx x) true s) (fun y s _ hok hw hb => hQ.wT x y s hok hw hb) ent_pop11 hw2 (hL.mv hm2) hx.1 hz (hQ.eN x) (hQ.eT x) (pop11_g hM hE hi x2 x0 x3 ((hT.mv hm2).less (by omega)) (fun k hk w2 h1 h2 => ih k (by omega) w2 (hm2.trans h1) h2)) (hQ.sN x) (fun y s _ => hQ.sT x y s)).then hM (hM.jmade tu hj)
    clear hT hj hm hm2 ih x0 x1 x2 x3 lF
    have hg : M.Then 63 #[.int .u64 x, .int .i64 (hIx x), ptr b, ptr b1, ptr b2] w' (fun v w'' => M.I r s w'' ∧ M.Code n (qN x) v w'') := by
      have hz' : (hIx x == -1) = false := by simp [hz]
      clear hi hQ hw hw2 hC
      generalize hIx x = y at *
      unfold Gm.Then Ent at *
      go_enter Try.func63, Try.ntmps63
      go_wp2_with fail
      refine ht.mono ?_
      rintro e w2 ⟨v, rfl, hq, t2⟩
      go_wp2
      go_ret
      exact ⟨v, rfl, hq, fr.trans t2⟩
    refine hg.mono fun v w'' hh => ?_
    show M.I r (if hIx x = -1 then T (-1) false s else (qN x, s)).2 w'' ∧ M.Code n (if hIx x = -1 then T (-1) false s else (qN x, s)).1 v w''
    rw [if_neg hz]
    exact hh

theorem pop_g (A : M.Ar p c) (hM : M.Ok) (hC : Gm.ChOk A h lk V U Y) (hQ : Gm.PopQ A h lk qR qN qT E T) : ∀ m (f : Nat) (cap : Array Value) (w : World), Ent f → M.OkW w → M.Lk w lf lcap lk → M.Cont m f cap w (fun x s => PopD V x ∧ E x.1 x.2 s) (fun x => #[.int .i64 x.1, .bool x.2]) (fun x => T x.1 x.2) →
    M.Makes m qR 39 #[chV p h lf lcap, .func (.func f) #[] cap] w := by
  intro m
  induction m using Nat.strongRecOn with
  | _ m ih =>
    intro f cap w hE hw hL hT
    have hmf := hmf_run
    have y2 := fun (a : Addr) (f : FuncId) (c : Array Value) (w : World) => run_store Try.prog w a (.func (.func f) #[] c) .plain rfl
    obtain ⟨W2, hW2⟩ : ∃ W2, (((w.alloc (.cells (chC p h lf lcap) 27)).alloc (.cells #[.func (.func f) #[] cap] 91)).alloc (.cells (chC p h lf lcap) 93)) = W2 := ⟨_, rfl⟩
    have k2 : Turns [] w W2 := by rw [← hW2]; exact (((Turns.refl _ _).alloc _).alloc _).alloc _
    have l0 : Lies W2 w.heap.size 27 (chC p h lf lcap) := by rw [← hW2]; exact ((Lies.new _ _ _).alloc _).alloc _
    have l1 : Lies W2 (w.heap.size + 1) 91 #[.func (.func f) #[] cap] := by rw [← hW2]; exact (Lies.new_of _ _ (by simp)).alloc _
    have l2 : Lies W2 (w.heap.size + 1 + 1) 93 (chC p h lf lcap) := by rw [← hW2]; exact Lies.new_of _ _ (by simp)
    have hm2 := hw.mv hM k2
    have hR := read_g (m := m) (h := h) (lf := lf) (lcap := lcap) A hM (V := fun x s => V x ∧ (hIx x = -1 → E (-1) false s)) (fun s hok hw => ⟨hC.hd _ hok, hQ.wR s hok hw⟩) ent_pop1 (hw.made hM k2) hQ.eR (pop1_g A hM hC hQ hE (hL.mv hm2) (hw.box hM k2 (by omega) l1 (by decide)) (hw.box hM k2 (by omega) l2 (by decide)) (hw.box hM k2 (by omega) l0 (by decide)) (hT.mv hm2)
      (fun n hn w' h1 h2 => ih n hn f cap w' hE h2 ((hL.mv hm2).mv h1) (((hT.mv hm2).mv h1).less (by omega)))) (fun s => by rw [hQ.sR])
    obtain ⟨c0, c1, c2⟩ := ch_cells l2
    clear hT hL ih l0 l1 l2 hm2 hw hE
    unfold Gm.Makes at *
    go_enter Try.func39, Try.ntmps39
    go_wp2_with fail
    clear hW2
    refine hR.mono ?_
    rintro e w4 ⟨v, rfl, hc4, t4⟩
    go_wp2
    go_ret
    exact ⟨v, rfl, hc4, k2.trans t4⟩
end

end Go.Proofs.Ythkklcmmbpffiaa

/- The stack's code: Push. -/
namespace Go.Proofs.Ythkklcmmbpffiaa
open Go.RowKit
set_option maxRecDepth 100000

section
variable {St Pr : Type} {M : Gm St Pr} {p c : Nat}

theorem canhave_g {l : List Int} {k h i : Int} {lf : FuncId} {lcap : Array Value} {lk : Int → Int} {w : World} (hM : M.Ok) (hw : M.OkW w) (hL : M.Lk w lf lcap lk) (ha : Arena w p c l k) (hi : Ix i) (h1 : hasA l h = true) (h2 : hasA l (lk i) = true) :
    Calls Try.prog 66 #[chV p h lf lcap, .int .i64 i] w fun e w' => e = .returned (.bool true) ∧ Turns [] w w' := by
  obtain ⟨W2, hW2⟩ : ∃ W2, w.alloc (.cells (chC p h lf lcap) 93) = W2 := ⟨_, rfl⟩
  have k2 : Turns [] w W2 := by rw [← hW2]; exact (Turns.refl _ _).alloc _
  have l0 : Lies W2 w.heap.size 93 (chC p h lf lcap) := by rw [← hW2]; exact Lies.new _ _ _
  have cL := fun W (hW : Turns [] w W) => hL.run W i (hw.mv hM hW) hi
  have eL := hL.ent
  have hmost := ha.most
  have hwf : ∀ x, hasA l x = true → (Lit.int .i64 x).wf = true := fun x hx => by
    rw [hasA_iff] at hx
    exact WalkArith.wf_i64 (by omega)
  have hwf1 := hwf h h1
  have hwf2 := hwf _ h2
  have cA := fun A W (hW : Turns [] w W) (hr : Row W .i64 A 2 [h, lk i]) => arecells_g A [h, lk i] 2 2 (ha.turn hW (by simp) (by simp)) hr
  have hall : [h, lk i].all (hasA l) = true := by simp [h1, h2]
  rw [hall] at cA
  have cN := fun W => canname_g i (by unfold Ix at hi; omega) W
  have hcn : cnB i = true := by unfold Ix at hi; simp [cnB]; omega
  rw [hcn] at cN
  have hne : (i != -1) = true := by unfold Ix at hi; simp; omega
  clear hL hw hM ha hi hcn hall hwf hmost
  obtain ⟨c0, c1, c2⟩ := ch_cells l0
  have g0 := l0.lt
  unfold Ent at *
  go_enter Try.func66, Try.ntmps66
  go_upto_region 1 with (fail)
  clear hW2 l0
  refine wp_region_held_drew (S := fun W' => W'.cell? ⟨w.heap.size, 0, none⟩ = some (ptr p) ∧ W'.cell? ⟨w.heap.size, 1, none⟩ = some (.int .i64 h) ∧ W'.cell? ⟨w.heap.size, 2, none⟩ = some (.func (.func lf) #[] lcap)) (by kernel_rfl) ⟨c0, c1, c2⟩ (fun hHeld => ?_)
  refine wpAnyH_take (i := 0) (oi := { dst := some 5, op := Go.Op.move (Go.Operand.tmp 1), type := 3, pos := "chain.go:74", after := #[], guard := none }) (v := ?_) rfl (by kernel_rfl) (by kernel_rfl) (by kernel_rfl) (fun _ _ _ h => h) (Or.inl ⟨by rfl, ?_⟩) hHeld ?_
  rotate_left
  · intro w hSw; obtain ⟨hS0, hS1, hS2⟩ := hSw; go_simp; try with_reducible rfl
  rotate_left
  try simp only [Act.put, List.setIfInBounds_toArray, List.set_cons_zero, List.set_cons_succ]
  refine wpAnyH_take (i := 1) (oi := { dst := some 6, op := Go.Op.binOp Go.BinOp.neq 3 (Go.Operand.tmp 5) (Go.Operand.const (Go.Value.int Go.IntKind.i64 (-1))) 3, type := 4, pos := "chain.go:74", after := #[{ on := 0, ground := Go.Ground.data }], guard := none }) (v := ?_) rfl (by kernel_rfl) (by kernel_rfl) (by kernel_rfl) (fun _ _ _ h => h) (Or.inl ⟨by rfl, ?_⟩) hHeld ?_
  rotate_left
  · intro w hSw; obtain ⟨hS0, hS1, hS2⟩ := hSw; go_simp; try with_reducible rfl
  rotate_left
  try simp only [Act.put, List.setIfInBounds_toArray, List.set_cons_zero, List.set_cons_succ]
  refine wpAnyH_take (i := 2) (oi := { dst := some 7, op := Go.Op.move (Go.Operand.tmp 6), type := 4, pos := "chain.go:74", after := #[{ on := 1, ground := Go.Ground.data }], guard := none }) (v := ?_) rfl (by kernel_rfl) (by kernel_rfl) (by kernel_rfl) (fun _ _ _ h => h) (Or.inl ⟨by rfl, ?_⟩) hHeld ?_
  rotate_left
  · intro w hSw; obtain ⟨hS0, hS1, hS2⟩ := hSw; go_simp; try with_reducible rfl
  rotate_left
  try simp only [Act.put, List.setIfInBounds_toArray, List.set_cons_zero, List.set_cons_succ]
  refine wpAnyH_take (i := 3) (oi := { dst := some 8, op := Go.Op.move (Go.Operand.tmp 1), type := 3, pos := "chain.go:74", after := #[{ on := 2, ground := Go.Ground.guard }], guard := some (2, true) }) (v := ?_) rfl (by kernel_rfl) (by kernel_rfl) (by kernel_rfl) (fun _ _ _ h => h) (Or.inl ⟨by rfl, ?_⟩) hHeld ?_
  rotate_left
  · intro w hSw; obtain ⟨hS0, hS1, hS2⟩ := hSw; go_simp; try with_reducible rfl
  rotate_left
  try simp only [Act.put, List.setIfInBounds_toArray, List.set_cons_zero, List.set_cons_succ]
  refine wpAnyH_ready (rs := [4]) (by kernel_rfl) (by simp) ?_
  refine AllReadyH.cons (o := { dst := some 9, op := Go.Op.call { callee := Go.Callee.value (Go.Operand.func 94), args := #[Go.Operand.tmp 8], argTypes := #[3] }, type := 4, pos := "chain.go:74", after := #[{ on := 3, ground := Go.Ground.data }, { on := 2, ground := Go.Ground.chain }, { on := 2, ground := Go.Ground.guard }], guard := some (2, true) }) rfl (fun K hK => ?_) AllReadyH.nil
  go_simp
  refine (cN (W2.drew)).mono ?_
  rintro e w4 ⟨rfl, t4⟩
  have k4 := k2.drew.trans t4
  have t4' : Turns [] W2 w4 := ((Turns.refl [] W2).drew).trans t4
  have u0 := (t4'.cell (p := ⟨w.heap.size, 0, none⟩) g0 (by simp)).trans c0
  have u1 := (t4'.cell (p := ⟨w.heap.size, 1, none⟩) g0 (by simp)).trans c1
  have u2 := (t4'.cell (p := ⟨w.heap.size, 2, none⟩) g0 (by simp)).trans c2
  go_wp2_with fail
  refine hK.out _ _ ⟨u0, u1, u2⟩ (fun hHeld => ?_)
  clear hK K
  try simp only [Act.put, List.setIfInBounds_toArray, List.set_cons_zero, List.set_cons_succ]
  refine wpAnyH_take (i := 5) (oi := { dst := some 10, op := Go.Op.pick (Go.Operand.tmp 7) (Go.Operand.tmp 9) (Go.Operand.const (Go.Value.bool false)), type := 4, pos := "chain.go:74", after := #[{ on := 2, ground := Go.Ground.data }, { on := 4, ground := Go.Ground.data }], guard := none }) (v := ?_) rfl (by kernel_rfl) (by kernel_rfl) (by kernel_rfl) (fun _ _ _ h => h) (Or.inl ⟨by rfl, ?_⟩) hHeld ?_
  rotate_left
  · intro w hSw; obtain ⟨hS0, hS1, hS2⟩ := hSw; go_simp; try with_reducible rfl
  rotate_left
  try simp only [Act.put, List.setIfInBounds_toArray, List.set_cons_zero, List.set_cons_succ]
  refine wpAnyH_take (i := 6) (oi := { dst := some 11, op := Go.Op.move (Go.Operand.tmp 10), type := 4, pos := "chain.go:74", after := #[{ on := 5, ground := Go.Ground.data }, { on := 4, ground := Go.Ground.chain }], guard := none }) (v := ?_) rfl (by kernel_rfl) (by kernel_rfl) (by kernel_rfl) (fun _ _ _ h => h) (Or.inl ⟨by rfl, ?_⟩) hHeld ?_
  rotate_left
  · intro w hSw; obtain ⟨hS0, hS1, hS2⟩ := hSw; go_simp; try with_reducible rfl
  rotate_left
  try simp only [Act.put, List.setIfInBounds_toArray, List.set_cons_zero, List.set_cons_succ]
  refine wpAnyH_take (i := 7) (oi := { dst := some 12, op := Go.Op.fieldAddr 93 (Go.Operand.tmp 2) 0, type := 0, pos := "chain.go:74", after := #[{ on := 6, ground := Go.Ground.guard }], guard := some (6, true) }) (v := ?_) rfl (by kernel_rfl) (by kernel_rfl) (by kernel_rfl) (fun _ _ _ h => h) (Or.inl ⟨by rfl, ?_⟩) hHeld ?_
  rotate_left
  · intro w hSw; obtain ⟨hS0, hS1, hS2⟩ := hSw; go_simp; try with_reducible rfl
  rotate_left
  try simp only [Act.put, List.setIfInBounds_toArray, List.set_cons_zero, List.set_cons_succ]
  refine wpAnyH_take (i := 8) (oi := { dst := some 13, op := Go.Op.load 24 (Go.Operand.tmp 12), type := 24, pos := "chain.go:74", after := #[{ on := 7, ground := Go.Ground.data }, { on := 6, ground := Go.Ground.guard }], guard := some (6, true) }) (v := ?_) rfl (by kernel_rfl) (by kernel_rfl) (by kernel_rfl) (fun _ _ _ h => h) (Or.inl ⟨by rfl, ?_⟩) hHeld ?_
  rotate_left
  · intro w hSw; obtain ⟨hS0, hS1, hS2⟩ := hSw; go_simp; try with_reducible rfl
  rotate_left
  try simp only [Act.put, List.setIfInBounds_toArray, List.set_cons_zero, List.set_cons_succ]
  refine wpAnyH_take (i := 9) (oi := { dst := some 14, op := Go.Op.fieldAddr 93 (Go.Operand.tmp 2) 1, type := 0, pos := "chain.go:74", after := #[{ on := 6, ground := Go.Ground.guard }], guard := some (6, true) }) (v := ?_) rfl (by kernel_rfl) (by kernel_rfl) (by kernel_rfl) (fun _ _ _ h => h) (Or.inl ⟨by rfl, ?_⟩) hHeld ?_
  rotate_left
  · intro w hSw; obtain ⟨hS0, hS1, hS2⟩ := hSw; go_simp; try with_reducible rfl
  rotate_left
  try simp only [Act.put, List.setIfInBounds_toArray, List.set_cons_zero, List.set_cons_succ]
  refine wpAnyH_take (i := 10) (oi := { dst := some 15, op := Go.Op.load 3 (Go.Operand.tmp 14), type := 3, pos := "chain.go:74", after := #[{ on := 9, ground := Go.Ground.data }, { on := 6, ground := Go.Ground.guard }], guard := some (6, true) }) (v := ?_) rfl (by kernel_rfl) (by kernel_rfl) (by kernel_rfl) (fun _ _ _ h => h) (Or.inl ⟨by rfl, ?_⟩) hHeld ?_
  rotate_left
  · intro w hSw; obtain ⟨hS0, hS1, hS2⟩ := hSw; go_simp; try with_reducible rfl
  rotate_left
  try simp only [Act.put, List.setIfInBounds_toArray, List.set_cons_zero, List.set_cons_succ]
  refine wpAnyH_take (i := 11) (oi := { dst := some 16, op := Go.Op.fieldAddr 93 (Go.Operand.tmp 2) 2, type := 0, pos := "chain.go:74", after := #[{ on := 6, ground := Go.Ground.guard }], guard := some (6, true) }) (v := ?_) rfl (by kernel_rfl) (by kernel_rfl) (by kernel_rfl) (fun _ _ _ h => h) (Or.inl ⟨by rfl, ?_⟩) hHeld ?_
  rotate_left
  · intro w hSw; obtain ⟨hS0, hS1, hS2⟩ := hSw; go_simp; try with_reducible rfl
  rotate_left
  try simp only [Act.put, List.setIfInBounds_toArray, List.set_cons_zero, List.set_cons_succ]
  refine wpAnyH_take (i := 12) (oi := { dst := some 17, op := Go.Op.load 25 (Go.Operand.tmp 16), type := 25, pos := "chain.go:74", after := #[{ on := 11, ground := Go.Ground.data }, { on := 6, ground := Go.Ground.guard }], guard := some (6, true) }) (v := ?_) rfl (by kernel_rfl) (by kernel_rfl) (by kernel_rfl) (fun _ _ _ h => h) (Or.inl ⟨by rfl, ?_⟩) hHeld ?_
  rotate_left
  · intro w hSw; obtain ⟨hS0, hS1, hS2⟩ := hSw; go_simp; try with_reducible rfl
  rotate_left
  try simp only [Act.put, List.setIfInBounds_toArray, List.set_cons_zero, List.set_cons_succ]
  refine wpAnyH_take (i := 13) (oi := { dst := some 18, op := Go.Op.move (Go.Operand.tmp 1), type := 3, pos := "chain.go:74", after := #[{ on := 6, ground := Go.Ground.guard }], guard := some (6, true) }) (v := ?_) rfl (by kernel_rfl) (by kernel_rfl) (by kernel_rfl) (fun _ _ _ h => h) (Or.inl ⟨by rfl, ?_⟩) hHeld ?_
  rotate_left
  · intro w hSw; obtain ⟨hS0, hS1, hS2⟩ := hSw; go_simp; try with_reducible rfl
  rotate_left
  try simp only [Act.put, List.setIfInBounds_toArray, List.set_cons_zero, List.set_cons_succ]
  refine wpAnyH_ready (rs := [14]) (by kernel_rfl) (by simp) ?_
  refine AllReadyH.cons (o := { dst := some 19, op := Go.Op.call { callee := Go.Callee.value (Go.Operand.tmp 17), args := #[Go.Operand.tmp 18], argTypes := #[3] }, type := 3, pos := "chain.go:74", after := #[{ on := 12, ground := Go.Ground.data }, { on := 13, ground := Go.Ground.data }, { on := 6, ground := Go.Ground.chain }, { on := 6, ground := Go.Ground.guard }], guard := some (6, true) }) rfl (fun K hK => ?_) AllReadyH.nil
  go_simp
  refine (cL _ k4).mono ?_
  rintro e w5 ⟨rfl, t5⟩
  have k5 := k4.trans t5
  have t5' := t4'.trans t5
  have v0 := (t5'.cell (p := ⟨w.heap.size, 0, none⟩) g0 (by simp)).trans c0
  have v1 := (t5'.cell (p := ⟨w.heap.size, 1, none⟩) g0 (by simp)).trans c1
  have v2 := (t5'.cell (p := ⟨w.heap.size, 2, none⟩) g0 (by simp)).trans c2
  go_wp2_with fail
  refine hK.out _ _ ⟨v0, v1, v2⟩ (fun hHeld => ?_)
  clear hK K
  try simp only [Act.put, List.setIfInBounds_toArray, List.set_cons_zero, List.set_cons_succ]
  refine wpAnyH_ready (rs := [15]) (by kernel_rfl) (by simp) ?_
  refine AllReadyH.cons (o := { dst := some 20, op := Go.Op.buildSlice 31 2 #[(0, Go.Operand.tmp 15), (1, Go.Operand.tmp 19)], type := 31, pos := "chain.go:74", after := #[{ on := 10, ground := Go.Ground.data }, { on := 14, ground := Go.Ground.data }, { on := 6, ground := Go.Ground.guard }], guard := some (6, true) }) rfl (fun K hK => ?_) AllReadyH.nil
  go_simp
  have t6 : Turns [] w5 (w5.alloc (.cells #[.int .i64 h, .int .i64 (lk i)] 3)) := (Turns.refl [] _).alloc _
  have k6 := k5.trans t6
  have t6' := t5'.trans t6
  have z0 := (t6'.cell (p := ⟨w.heap.size, 0, none⟩) g0 (by simp)).trans c0
  have z1 := (t6'.cell (p := ⟨w.heap.size, 1, none⟩) g0 (by simp)).trans c1
  have z2 := (t6'.cell (p := ⟨w.heap.size, 2, none⟩) g0 (by simp)).trans c2
  have cA := cA _ _ k6 (Row.two w5 h (lk i) hwf1 hwf2)
  refine hK.out _ _ ⟨z0, z1, z2⟩ (fun hHeld => ?_)
  clear hK K
  try simp only [Act.put, List.setIfInBounds_toArray, List.set_cons_zero, List.set_cons_succ]
  refine wpAnyH_ready (rs := [16]) (by kernel_rfl) (by simp) ?_
  refine AllReadyH.cons (o := { dst := some 21, op := Go.Op.call { callee := Go.Callee.value (Go.Operand.func 95), args := #[Go.Operand.tmp 13, Go.Operand.tmp 20], argTypes := #[24, 31] }, type := 4, pos := "chain.go:74", after := #[{ on := 8, ground := Go.Ground.data }, { on := 15, ground := Go.Ground.data }, { on := 14, ground := Go.Ground.chain }, { on := 6, ground := Go.Ground.guard }], guard := some (6, true) }) rfl (fun K hK => ?_) AllReadyH.nil
  go_simp
  refine cA.mono ?_
  rintro e w7 ⟨rfl, rfl⟩
  go_wp2_with fail
  refine hK.out _ _ ⟨z0, z1, z2⟩ (fun hHeld => ?_)
  clear hK K
  try simp only [Act.put, List.setIfInBounds_toArray, List.set_cons_zero, List.set_cons_succ]
  refine wpAnyH_take (i := 17) (oi := { dst := some 22, op := Go.Op.pick (Go.Operand.tmp 11) (Go.Operand.tmp 21) (Go.Operand.const (Go.Value.bool false)), type := 4, pos := "chain.go:74", after := #[{ on := 6, ground := Go.Ground.data }, { on := 16, ground := Go.Ground.data }], guard := none }) (v := ?_) rfl (by kernel_rfl) (by kernel_rfl) (by kernel_rfl) (fun _ _ _ h => h) (Or.inl ⟨by rfl, ?_⟩) hHeld ?_
  rotate_left
  · intro w hSw; obtain ⟨hS0, hS1, hS2⟩ := hSw; go_simp; try with_reducible rfl
  rotate_left
  try simp only [Act.put, List.setIfInBounds_toArray, List.set_cons_zero, List.set_cons_succ]
  refine wpAnyH_take (i := 18) (oi := { dst := some 4, op := Go.Op.assign (Go.Operand.tmp 22), type := 4, pos := "chain.go:74", after := #[{ on := 17, ground := Go.Ground.data }, { on := 16, ground := Go.Ground.chain }, { on := 0, ground := Go.Ground.phase }, { on := 1, ground := Go.Ground.phase }, { on := 2, ground := Go.Ground.phase }, { on := 3, ground := Go.Ground.phase }, { on := 4, ground := Go.Ground.phase }, { on := 5, ground := Go.Ground.phase }, { on := 6, ground := Go.Ground.phase }, { on := 7, ground := Go.Ground.phase }, { on := 8, ground := Go.Ground.phase }, { on := 9, ground := Go.Ground.phase }, { on := 10, ground := Go.Ground.phase }, { on := 11, ground := Go.Ground.phase }, { on := 12, ground := Go.Ground.phase }, { on := 13, ground := Go.Ground.phase }, { on := 14, ground := Go.Ground.phase }, { on := 15, ground := Go.Ground.phase }, { on := 16, ground := Go.Ground.phase }, { on := 17, ground := Go.Ground.phase }], guard := none }) (v := ?_) rfl (by kernel_rfl) (by kernel_rfl) (by kernel_rfl) (fun _ _ _ h => h) (Or.inl ⟨by rfl, ?_⟩) hHeld ?_
  rotate_left
  · intro w hSw; obtain ⟨hS0, hS1, hS2⟩ := hSw; go_simp; try with_reducible rfl
  rotate_left
  try simp only [Act.put, List.setIfInBounds_toArray, List.set_cons_zero, List.set_cons_succ]
  refine wpAnyH_done (by kernel_rfl) ?_ _
  go_wp2
  go_ret
  exact ⟨rfl, k6⟩

/-- what a Push does, step by step: it is to read the head, to write the link, to turn the head. -/
structure Gm.PushQ (A : M.Ar p c) (h : Int) (lk : Int → Int) (i : Int) (qR : Pr) (qS qT : Int → Pr) (E : St → Prop) (T : St → Pr × St) : Prop where
  eR : M.ended qR = false
  eS : ∀ o, M.ended (qS o) = false
  eT : ∀ o, M.ended (qT o) = false
  sR : ∀ s, M.step qR s = (qS (getA (A.l s) h), A.put s (A.l s) (moreA (A.l s) h (A.k s)))
  sS : ∀ o s, M.step (qS o) s = (qT o, A.put s (setA (A.l s) (lk i) (hIx o + 1)) (moreA (A.l s) (lk i) (A.k s)))
  sT : ∀ o s, M.step (qT o) s = if casB (A.l s) h o = true then T (A.put s (casA (A.l s) h o (newH o i)) (moreA (A.l s) h (A.k s))) else (qR, A.put s (casA (A.l s) h o (newH o i)) (moreA (A.l s) h (A.k s)))
  /-- what then may ask of the state. -/
  wT : ∀ o s, A.ok (A.l s) → M.W (qT o) s → casB (A.l s) h o = true → E (A.put s (casA (A.l s) h o (newH o i)) (moreA (A.l s) h (A.k s)))

variable {m f b b1 b2 b3 : Nat} {h old i : Int} {lf : FuncId} {lcap cap : Array Value} {lk : Int → Int} {w : World} {qR : Pr} {qS qT : Int → Pr} {T : St → Pr × St} {V U Y : Int → Prop} {E : St → Prop}

/-- where a Push may be begun. -/
def Room (w : World) (p c : Nat) (h : Int) (j : Int) : Prop := ∃ l k, Arena w p c l k ∧ hasA l h = true ∧ hasA l j = true
theorem Gm.ChOk.begin {A : M.Ar p c} (hC : Gm.ChOk A h lk V U Y) (hY : Y i) {r : Nat} {s : St} (hi : M.I r s w) : Room w p c h (lk i) := ⟨_, _, A.ar _ _ _ hi, hC.room _ _ (A.okI _ _ _ hi) hY⟩

theorem push11_g (A : M.Ar p c) (hM : M.Ok) (hC : Gm.ChOk A h lk V U Y) (hY : Y i) (hE : Ent f) (x0 : M.Bx w b 27 (chC p h lf lcap)) (x1 : M.Bx w b1 3 #[.int .i64 i]) (x2 : M.Bx w b2 37 #[.func (.func f) #[] cap])
    (hT : M.Cont m f cap w (fun (_ : Unit) s => E s) (fun _ => #[]) (fun _ => T))
    (ih : ∀ n, n < m → ∀ w', Mv M.B (M.L ++ M.X) M.ws w w' → M.OkW w' → Room w' p c h (lk i) → M.Makes n qR 41 #[chV p h lf lcap, .int .i64 i, .func (.func f) #[] cap] w') :
    M.Cont m 69 #[ptr b, ptr b1, ptr b2] w (fun b s => b = true → E s) (fun b => #[.bool b]) (fun b s => if b = true then T s else (qR, s)) := by
  intro n hn x w' s r hm hj hd
  have l0 := (x0.mv hm).l
  have c0 : w'.cell? ⟨b, 0, none⟩ = some (ptr p) := l0.cell 0
  have c1 : w'.cell? ⟨b, 1, none⟩ = some (.int .i64 h) := l0.cell 1
  have c2 : w'.cell? ⟨b, 2, none⟩ = some (.func (.func lf) #[] lcap) := l0.cell 2
  have d0 := (x1.mv hm).cell
  have e0 := (x2.mv hm).cell
  cases x with
  | false =>
    have ht := (ih n hn w' hm (hM.okj hj) (hC.begin hY (hM.ji _ _ _ hj))).then hM hj
    clear hT hj hm ih x0 x1 x2 l0
    show M.Then _ #[.bool false, ptr b, ptr b1, ptr b2] w' (fun v w'' => M.I r s w'' ∧ M.Code n qR v w'')
    unfold Gm.Then Ent at *
    go_enter Try.func69, Try.ntmps69
    go_wp2_with fail
    refine ht.mono ?_
    rintro e w2 ⟨v, rfl, hq, t2⟩
    go_wp2
    go_ret
    exact ⟨v, rfl, hq, t2⟩
  | true =>
    have ht : M.Then f (#[] ++ cap) w' fun v w'' => M.I r (T s).2 w'' ∧ M.Code n (T s).1 v w'' := hT n hn () w' s r hm hj (hd rfl)
    clear hT hj hm ih x0 x1 x2 l0
    show M.Then _ #[.bool true, ptr b, ptr b1, ptr b2] w' (fun v w'' => M.I r (T s).2 w'' ∧ M.Code n (T s).1 v w'')
    generalize T s = R at *
    simp only [Array.empty_append] at ht
    unfold Gm.Then Ent at *
    go_enter Try.func69, Try.ntmps69
    go_wp2_with fail
    refine ht.mono ?_
    rintro e w2 ⟨v, rfl, hq, t2⟩
    go_wp2
    go_ret
    exact ⟨v, rfl, hq, t2⟩

theorem push1_g (A : M.Ar p c) (hM : M.Ok) (hC : Gm.ChOk A h lk V U Y) (hY : Y i) (hQ : Gm.PushQ A h lk i qR qS qT E T) (hE : Ent f) (hL : M.Lk w lf lcap lk) (x0 : M.Bx w b 93 (chC p h lf lcap)) (x1 : M.Bx w b1 3 #[.int .i64 i]) (x2 : M.Bx w b2 27 (chC p h lf lcap)) (x3 : M.Bx w b3 37 #[.func (.func f) #[] cap])
    (hT : M.Cont m f cap w (fun (_ : Unit) s => E s) (fun _ => #[]) (fun _ => T))
    (ih : ∀ n, n < m → ∀ w', Mv M.B (M.L ++ M.X) M.ws w w' → M.OkW w' → Room w' p c h (lk i) → M.Makes n qR 41 #[chV p h lf lcap, .int .i64 i, .func (.func f) #[] cap] w') :
    M.Cont m 67 #[ptr b, ptr b1, ptr b2, ptr b3] w (fun x _ => N64 x ∧ V x) (fun x => #[.int .u64 x, .int .i64 (hIx x)]) (fun x s => (qS x, s)) := by
  intro n hn x w' s r hm hj hx
  have hw := hM.okj hj
  have x0 := x0.mv hm
  have x1 := x1.mv hm
  have x2 := x2.mv hm
  have x3 := x3.mv hm
  obtain ⟨c0, c1, c2⟩ := ch_cells x0.l
  have d0 := x1.cell
  have e0 := x3.cell
  have hmf := hmf_run
  have ht := (lay_g (m := n) (f := 69) (cap := #[ptr b2, ptr b1, ptr b3]) (T := fun bb s => if bb = true then T s else (qR, s)) A hM (fun l hl => hC.ly l x i hl hx.2 hY) (fun l hl => hC.tn l x i hl hx.1 hx.2 hY) (D := fun b s => b = true → E s) (fun s hok hw hb => hQ.wT x s hok hw hb) ent_push11 hw (hL.mv hm) hx.1 (hC.ix i hY) (hQ.eS x) (hQ.eT x) (push11_g A hM hC hY hE x2 x1 x3 ((hT.mv hm).less (by omega)) (fun k hk w2 h1 h2 h3 => ih k (by omega) w2 (hm.trans h1) h2 h3)) (hQ.sS x) (hQ.sT x)).then hM hj
  clear hT hj hm ih x0 x1 x2 x3 hQ hw
  show M.Then _ #[.int .u64 x, .int .i64 (hIx x), ptr b, ptr b1, ptr b2, ptr b3] w' (fun v w'' => M.I r s w'' ∧ M.Code n (qS x) v w'')
  generalize hIx x = y at *
  unfold Gm.Then Ent at *
  go_enter Try.func67, Try.ntmps67
  go_wp2_with fail
  refine ht.mono ?_
  rintro e w2 ⟨v, rfl, hq, t2⟩
  go_wp2
  go_ret
  exact ⟨v, rfl, hq, t2⟩

theorem push_g (A : M.Ar p c) (hM : M.Ok) (hC : Gm.ChOk A h lk V U Y) (hY : Y i) (hQ : Gm.PushQ A h lk i qR qS qT E T) : ∀ m (f : Nat) (cap : Array Value) (w : World), Ent f → M.OkW w → M.Lk w lf lcap lk → Room w p c h (lk i) → M.Cont m f cap w (fun (_ : Unit) s => E s) (fun _ => #[]) (fun _ => T) →
    M.Makes m qR 41 #[chV p h lf lcap, .int .i64 i, .func (.func f) #[] cap] w := by
  intro m
  induction m using Nat.strongRecOn with
  | _ m ih =>
    intro f cap w hE hw hL hRm hT
    have hmf := hmf_run
    have y2 := fun (a : Addr) (f : FuncId) (c : Array Value) (w : World) => run_store Try.prog w a (.func (.func f) #[] c) .plain rfl
    obtain ⟨W2, hW2⟩ : ∃ W2, ((((w.alloc (.cells (chC p h lf lcap) 27)).alloc (.cells #[.int .i64 i] 3)).alloc (.cells #[.func (.func f) #[] cap] 37)).alloc (.cells (chC p h lf lcap) 93)) = W2 := ⟨_, rfl⟩
    have k2 : Turns [] w W2 := by rw [← hW2]; exact ((((Turns.refl _ _).alloc _).alloc _).alloc _).alloc _
    have l0 : Lies W2 w.heap.size 27 (chC p h lf lcap) := by rw [← hW2]; exact (((Lies.new _ _ _).alloc _).alloc _).alloc _
    have l1 : Lies W2 (w.heap.size + 1) 3 #[.int .i64 i] := by rw [← hW2]; exact ((Lies.new_of _ _ (by simp)).alloc _).alloc _
    have l2 : Lies W2 (w.heap.size + 1 + 1) 37 #[.func (.func f) #[] cap] := by rw [← hW2]; exact (Lies.new_of _ _ (by simp)).alloc _
    have l3 : Lies W2 (w.heap.size + 1 + 1 + 1) 93 (chC p h lf lcap) := by rw [← hW2]; exact Lies.new_of _ _ (by simp)
    have hw2 := hw.made hM k2
    have hm2 := hw.mv hM k2
    have x0 := hw.box hM k2 (by omega) l0 (by decide)
    have x1 := hw.box hM k2 (by omega) l1 (by decide)
    have x2 := hw.box hM k2 (by omega) l2 (by decide)
    have x3 := hw.box hM k2 (by omega) l3 (by decide)
    have hR : ∀ W, Turns [] W2 W → M.Makes m qR 62 #[chV p h lf lcap, .func (.func 67) #[] #[ptr (w.heap.size + 1 + 1 + 1), ptr (w.heap.size + 1), ptr w.heap.size, ptr (w.heap.size + 1 + 1)]] W := fun W hW => by
      have h3 := hw2.mv hM hW
      exact read_g (V := fun x _ => V x) A hM (fun s hok _ => hC.hd _ hok) ent_push1 (hw2.made hM hW) hQ.eR (push1_g A hM hC hY hQ hE ((hL.mv hm2).mv h3) (x3.mv h3) (x1.mv h3) (x0.mv h3) (x2.mv h3) ((hT.mv hm2).mv h3)
        (fun n hn w' h1 h2 h4 => ih n hn f cap w' hE h2 (((hL.mv hm2).mv h3).mv h1) h4 ((((hT.mv hm2).mv h3).mv h1).less (by omega)))) hQ.sR
    obtain ⟨l, k, ha, g1, g2⟩ := hRm
    have cH := canhave_g hM hw2 (hL.mv hm2) (ha.turn k2 (by simp) (by simp)) (hC.ix i hY) g1 g2
    have d0 : W2.cell? ⟨w.heap.size + 1, 0, none⟩ = some (.int .i64 i) := l1.cell 0
    have gl1 := l1.lt
    have gl3 := l3.lt
    obtain ⟨c0, c1, c2⟩ := ch_cells l3
    clear hT hL ih l0 l1 l2 l3 hm2 hw hE x0 x1 x2 x3 hw2 ha
    unfold Gm.Makes at *
    go_enter Try.func41, Try.ntmps41
    go_wp2_with fail
    clear hW2
    refine cH.mono ?_
    rintro e w3 ⟨rfl, t3⟩
    have d1 := (t3.cell (p := ⟨w.heap.size + 1, 0, none⟩) gl1 (by simp)).trans d0
    have u0 := (t3.cell (p := ⟨w.heap.size + 1 + 1 + 1, 0, none⟩) gl3 (by simp)).trans c0
    have u1 := (t3.cell (p := ⟨w.heap.size + 1 + 1 + 1, 1, none⟩) gl3 (by simp)).trans c1
    have u2 := (t3.cell (p := ⟨w.heap.size + 1 + 1 + 1, 2, none⟩) gl3 (by simp)).trans c2
    have hR := hR _ t3
    go_wp2_with fail
    refine hR.mono ?_
    rintro e w4 ⟨v, rfl, hc4, t4⟩
    go_wp2
    go_ret
    exact ⟨v, rfl, hc4, (k2.trans t3).trans t4⟩
end

end Go.Proofs.Ythkklcmmbpffiaa

/- The inbox's code over any machine: its chain; Drain. -/
namespace Go.Proofs.Ythkklcmmbpffiaa
open Go.RowKit
set_option maxRecDepth 100000

theorem ent_drain1 : Ent 82 := ent_of Try.func82 (by kernel_rfl) (by kernel_rfl)
theorem ent_drain11 : Ent 84 := ent_of Try.func84 (by kernel_rfl) (by kernel_rfl)

/-- a box's value; its cells. -/
abbrev bxV (p : Nat) (h fh : Int) (lf df : FuncId) (lcap dcap : Array Value) : Value := .agg #[ptr p, .int .i64 h, .func (.func lf) #[] lcap, .func (.func df) #[] dcap, ptr p, .int .i64 fh, .func (.func lf) #[] lcap]
abbrev bxC (p : Nat) (h fh : Int) (lf df : FuncId) (lcap dcap : Array Value) : Array Value := #[ptr p, .int .i64 h, .func (.func lf) #[] lcap, .func (.func df) #[] dcap, ptr p, .int .i64 fh, .func (.func lf) #[] lcap]

theorem chainb_g (p : Nat) (h fh : Int) (lf df : FuncId) (lcap dcap : Array Value) (w : World) :
    Calls Try.prog 60 #[bxV p h fh lf df lcap dcap] w fun e w' => e = .returned (chV p h lf lcap) ∧ Turns [] w w' := by
  have y2 := fun (a : Addr) (f : FuncId) (c : Array Value) (w : World) => run_store Try.prog w a (.func (.func f) #[] c) .plain rfl
  have k2 : Turns [] w ((w.alloc (.cells (bxC p h fh lf df lcap dcap) 62)).alloc (.cells (chC p h lf lcap) 93)) := ((Turns.refl _ _).alloc _).alloc _
  have l1 : Lies ((w.alloc (.cells (bxC p h fh lf df lcap dcap) 62)).alloc (.cells (chC p h lf lcap) 93)) (w.heap.size + 1) 93 (chC p h lf lcap) := Lies.new_of _ _ (by simp)
  obtain ⟨c0, c1, c2⟩ := ch_cells l1
  go_enter Try.func60, Try.ntmps60
  go_wp2
  clear y2
  generalize ((w.alloc (.cells (bxC p h fh lf df lcap dcap) 62)).alloc (.cells (chC p h lf lcap) 93)) = W2 at *
  refine bodyPost_ret (v := chV p h lf lcap) ?_ rfl ?_
  · clear k2 l1
    simp [results, Try.results60, go_sem, c0, c1, c2]
    try rfl
  exact ⟨rfl, k2⟩

end Go.Proofs.Ythkklcmmbpffiaa

/- The inbox's code over any machine: Drain. -/
namespace Go.Proofs.Ythkklcmmbpffiaa
open Go.RowKit
set_option maxRecDepth 100000

section
variable {St Pr : Type} {M : Gm St Pr} {p c : Nat}

/-- what a Drain does, step by step: it is to read the head, to turn it to none. -/
structure Gm.DrainQ (A : M.Ar p c) (h : Int) (qR : Pr) (qT : Int → Pr) (E : Int → St → Prop) (T : Int → St → Pr × St) : Prop where
  eR : M.ended qR = false
  eT : ∀ o, M.ended (qT o) = false
  sR : ∀ s, M.step qR s = if hIx (getA (A.l s) h) = -1 then T (-1) (A.put s (A.l s) (moreA (A.l s) h (A.k s))) else (qT (getA (A.l s) h), A.put s (A.l s) (moreA (A.l s) h (A.k s)))
  sT : ∀ o s, M.step (qT o) s = if casB (A.l s) h o = true then T (hIx o) (A.put s (casA (A.l s) h o (newH o (-1))) (moreA (A.l s) h (A.k s))) else (qR, A.put s (casA (A.l s) h o (newH o (-1))) (moreA (A.l s) h (A.k s)))
  wR : ∀ s, A.ok (A.l s) → M.W qR s → hIx (getA (A.l s) h) = -1 → E (-1) (A.put s (A.l s) (moreA (A.l s) h (A.k s)))
  wT : ∀ o s, A.ok (A.l s) → M.W (qT o) s → casB (A.l s) h o = true → E (hIx o) (A.put s (casA (A.l s) h o (newH o (-1))) (moreA (A.l s) h (A.k s)))

/-- what a Drain may tell. -/
def DrainD (V : Int → Prop) (x : Int) : Prop := x = -1 ∨ ∃ o, N64 o ∧ V o ∧ hIx o ≠ -1 ∧ x = hIx o

variable {m f b b1 b2 : Nat} {h fh old i : Int} {lf df : FuncId} {lcap dcap cap : Array Value} {w : World} {qR : Pr} {qT : Int → Pr} {T : Int → St → Pr × St} {V : Int → Prop} {E : Int → St → Prop}

theorem drain11_g (hM : M.Ok) (hE : Ent f) (hi : DrainD V i) (x0 : M.Bx w b 62 (bxC p h fh lf df lcap dcap)) (x1 : M.Bx w b1 109 #[.func (.func f) #[] cap]) (x2 : M.Bx w b2 3 #[.int .i64 i])
    (hT : M.Cont m f cap w (fun x s => DrainD V x ∧ E x s) (fun x => #[.int .i64 x]) T)
    (ih : ∀ n, n < m → ∀ w', Mv M.B (M.L ++ M.X) M.ws w w' → M.OkW w' → M.Makes n qR 52 #[bxV p h fh lf df lcap dcap, .func (.func f) #[] cap] w') :
    M.Cont m 84 #[ptr b, ptr b1, ptr b2] w (fun b s => b = true → E i s) (fun b => #[.bool b]) (fun b s => if b = true then T i s else (qR, s)) := by
  intro n hn x w' s r hm hj hd
  have l0 := (x0.mv hm).l
  obtain ⟨c0, c1, c2, c3, c4, c5, c6⟩ : w'.cell? ⟨b, 0, none⟩ = some (ptr p) ∧ w'.cell? ⟨b, 1, none⟩ = some (.int .i64 h) ∧ w'.cell? ⟨b, 2, none⟩ = some (.func (.func lf) #[] lcap) ∧ w'.cell? ⟨b, 3, none⟩ = some (.func (.func df) #[] dcap) ∧ w'.cell? ⟨b, 4, none⟩ = some (ptr p) ∧ w'.cell? ⟨b, 5, none⟩ = some (.int .i64 fh) ∧ w'.cell? ⟨b, 6, none⟩ = some (.func (.func lf) #[] lcap) := ⟨l0.cell 0, l0.cell 1, l0.cell 2, l0.cell 3, l0.cell 4, l0.cell 5, l0.cell 6⟩
  have d0 := (x1.mv hm).cell
  have e0 := (x2.mv hm).cell
  cases x with
  | false =>
    have ht := (ih n hn w' hm (hM.okj hj)).then hM hj
    clear hT hj hm ih x0 x1 x2 l0
    show M.Then _ #[.bool false, ptr b, ptr b1, ptr b2] w' (fun v w'' => M.I r s w'' ∧ M.Code n qR v w'')
    unfold Gm.Then Ent at *
    go_enter Try.func84, Try.ntmps84
    go_wp2_with fail
    refine ht.mono ?_
    rintro e w2 ⟨v, rfl, hq, t2⟩
    go_wp2
    go_ret
    exact ⟨v, rfl, hq, t2⟩
  | true =>
    have ht : M.Then f (#[.int .i64 i] ++ cap) w' fun v w'' => M.I r (T i s).2 w'' ∧ M.Code n (T i s).1 v w'' := hT n hn i w' s r hm hj ⟨hi, hd rfl⟩
    clear hT hj hm ih x0 x1 x2 l0
    show M.Then _ #[.bool true, ptr b, ptr b1, ptr b2] w' (fun v w'' => M.I r (T i s).2 w'' ∧ M.Code n (T i s).1 v w'')
    generalize T i s = R at *
    unfold Gm.Then Ent at *
    go_enter Try.func84, Try.ntmps84
    go_wp2_with fail
    refine ht.mono ?_
    rintro e w2 ⟨v, rfl, hq, t2⟩
    go_wp2
    go_ret
    exact ⟨v, rfl, hq, t2⟩

theorem drain1_g (A : M.Ar p c) (hM : M.Ok) (h0 : ∀ l o, A.ok l → N64 o → V o → A.ok (casA l h o (newH o (-1)))) (hQ : Gm.DrainQ A h qR qT E T) (hE : Ent f) (x0 : M.Bx w b 109 #[.func (.func f) #[] cap]) (x1 : M.Bx w b1 93 (chC p h lf lcap)) (x2 : M.Bx w b2 62 (bxC p h fh lf df lcap dcap))
    (hT : M.Cont m f cap w (fun x s => DrainD V x ∧ E x s) (fun x => #[.int .i64 x]) T)
    (ih : ∀ n, n < m → ∀ w', Mv M.B (M.L ++ M.X) M.ws w w' → M.OkW w' → M.Makes n qR 52 #[bxV p h fh lf df lcap dcap, .func (.func f) #[] cap] w') :
    M.Cont m 82 #[ptr b, ptr b1, ptr b2] w (fun x s => N64 x ∧ (V x ∧ (hIx x = -1 → E (-1) s))) (fun x => #[.int .u64 x, .int .i64 (hIx x)]) (fun x s => if hIx x = -1 then T (-1) s else (qT x, s)) := by
  intro n hn x w' s r hm hj hx
  have hw := hM.okj hj
  have tu : Turns [] w' (w'.alloc (.cells #[.int .i64 (hIx x)] 3)) := (Turns.refl _ _).alloc _
  have lF : Lies (w'.alloc (.cells #[.int .i64 (hIx x)] 3)) w'.heap.size 3 #[.int .i64 (hIx x)] := Lies.new _ _ _
  have x3 := hw.box hM tu (Nat.le_refl _) lF (by decide)
  have hw2 := hw.made hM tu
  have hm2 := hm.trans (hw.mv hM tu)
  have x0 := x0.mv hm2
  have x1 := x1.mv hm2
  have x2 := x2.mv hm2
  obtain ⟨c0, c1, c2⟩ := ch_cells x1.l
  have d0 := x0.cell
  have e0 := x3.cell
  have fr := hw.fr hM tu
  have hmf := hmf_run
  by_cases hz : hIx x = -1
  · have ht : M.Then f (#[.int .i64 (-1)] ++ cap) (w'.alloc (.cells #[.int .i64 (hIx x)] 3)) fun v w'' => M.I r (T (-1) s).2 w'' ∧ M.Code n (T (-1) s).1 v w'' := hT n hn (-1) _ s r hm2 (hM.jmade tu hj) ⟨.inl rfl, hx.2.2 hz⟩
    clear hT hj hm hm2 ih x0 x1 x2 x3 lF
    have hg : M.Then 82 #[.int .u64 x, .int .i64 (hIx x), ptr b, ptr b1, ptr b2] w' (fun v w'' => M.I r (T (-1) s).2 w'' ∧ M.Code n (T (-1) s).1 v w'') := by
      generalize T (-1) s = R at *
      generalize hIx x = y at *
      subst hz
      unfold Gm.Then Ent at *
      go_enter Try.func82, Try.ntmps82
      go_wp2_with fail
      refine ht.mono ?_
      rintro e w2 ⟨v, rfl, hq, t2⟩
      go_wp2
      go_ret
      exact ⟨v, rfl, hq, fr.trans t2⟩
    refine hg.mono fun v w'' hh => ?_
    show M.I r (if hIx x = -1 then T (-1) s else (qT x, s)).2 w'' ∧ M.Code n (if hIx x = -1 then T (-1) s else (qT x, s)).1 v w''
    rw [if_pos hz]
    exact hh
  · have hi : DrainD V (hIx x) := .inr ⟨x, hx.1, hx.2.1, hz, rfl⟩
    have ht := (turn_g (m := n) (f := 84) (cap := #[ptr b2, ptr b, ptr w'.heap.size]) (lf := lf) (lcap := lcap) (T := fun bb s => if bb = true then T (hIx x) s else (qR, s)) (old := x) (i := -1) A hM (fun l hl => h0 l x hl hx.1 hx.2.1) (D := fun b s => b = true → E (hIx x) s) (fun s hok hw hb => hQ.wT x s hok hw hb) ent_drain11 hw2 hx.1 (by unfold Ix0; omega) (hQ.eT x) (drain11_g hM hE hi x2 x0 x3 ((hT.mv hm2).less (by omega)) (fun k hk w2 h1 h2 => ih k (by omega) w2 (hm2.trans h1) h2)) (hQ.sT x)).then hM (hM.jmade tu hj)
    clear hT hj hm hm2 ih x0 x1 x2 x3 lF
    have hg : M.Then 82 #[.int .u64 x, .int .i64 (hIx x), ptr b, ptr b1, ptr b2] w' (fun v w'' => M.I r s w'' ∧ M.Code n (qT x) v w'') := by
      have hz' : (hIx x == -1) = false := by simp [hz]
      clear hi hQ hw hw2 h0
      generalize hIx x = y at *
      unfold Gm.Then Ent at *
      go_enter Try.func82, Try.ntmps82
      go_wp2_with fail
      refine ht.mono ?_
      rintro e w2 ⟨v, rfl, hq, t2⟩
      go_wp2
      go_ret
      exact ⟨v, rfl, hq, fr.trans t2⟩
    refine hg.mono fun v w'' hh => ?_
    show M.I r (if hIx x = -1 then T (-1) s else (qT x, s)).2 w'' ∧ M.Code n (if hIx x = -1 then T (-1) s else (qT x, s)).1 v w''
    rw [if_neg hz]
    exact hh

theorem drain_g (A : M.Ar p c) (hM : M.Ok) (hV : ∀ l, A.ok l → V (getA l h)) (h0 : ∀ l o, A.ok l → N64 o → V o → A.ok (casA l h o (newH o (-1)))) (hQ : Gm.DrainQ A h qR qT E T) : ∀ m (f : Nat) (cap : Array Value) (w : World), Ent f → M.OkW w → M.Cont m f cap w (fun x s => DrainD V x ∧ E x s) (fun x => #[.int .i64 x]) T →
    M.Makes m qR 52 #[bxV p h fh lf df lcap dcap, .func (.func f) #[] cap] w := by
  intro m
  induction m using Nat.strongRecOn with
  | _ m ih =>
    intro f cap w hE hw hT
    have hmf := hmf_run
    have y2 := fun (a : Addr) (f : FuncId) (c : Array Value) (w : World) => run_store Try.prog w a (.func (.func f) #[] c) .plain rfl
    obtain ⟨W2, hW2⟩ : ∃ W2, ((w.alloc (.cells (bxC p h fh lf df lcap dcap) 62)).alloc (.cells #[.func (.func f) #[] cap] 109)) = W2 := ⟨_, rfl⟩
    have k2 : Turns [] w W2 := by rw [← hW2]; exact ((Turns.refl _ _).alloc _).alloc _
    have l0 : Lies W2 w.heap.size 62 (bxC p h fh lf df lcap dcap) := by rw [← hW2]; exact (Lies.new _ _ _).alloc _
    have l1 : Lies W2 (w.heap.size + 1) 109 #[.func (.func f) #[] cap] := by rw [← hW2]; exact Lies.new_of _ _ (by simp)
    have hR : ∀ w3, Turns [] W2 w3 → M.Makes m qR 62 #[chV p h lf lcap, .func (.func 82) #[] #[ptr (w.heap.size + 1), ptr w3.heap.size, ptr w.heap.size]] (w3.alloc (.cells (chC p h lf lcap) 93)) := fun w3 h3 => by
      have k4 : Turns [] w (w3.alloc (.cells (chC p h lf lcap) 93)) := (k2.trans h3).alloc _
      have k24 : Turns [] W2 (w3.alloc (.cells (chC p h lf lcap) 93)) := h3.alloc _
      have l2 : Lies (w3.alloc (.cells (chC p h lf lcap) 93)) w3.heap.size 93 (chC p h lf lcap) := Lies.new _ _ _
      have hm4 := hw.mv hM k4
      exact read_g (m := m) (h := h) (lf := lf) (lcap := lcap) A hM (V := fun x s => V x ∧ (hIx x = -1 → E (-1) s)) (fun s hok hw => ⟨hV _ hok, hQ.wR s hok hw⟩) ent_drain1 (hw.made hM k4) hQ.eR (drain1_g A hM h0 hQ hE (hw.box hM k4 (by omega) (l1.turn k24 (by simp)) (by decide)) (hw.box hM k4 (k2.trans h3).size l2 (by decide)) (hw.box hM k4 (Nat.le_refl _) (l0.turn k24 (by simp)) (by decide)) (hT.mv hm4)
        (fun n hn w' h1 h2 => ih n hn f cap w' hE h2 (((hT.mv hm4).mv h1).less (by omega)))) (fun s => by rw [hQ.sR])
    obtain ⟨c0, c1, c2, c3, c4, c5, c6⟩ : W2.cell? ⟨w.heap.size, 0, none⟩ = some (ptr p) ∧ W2.cell? ⟨w.heap.size, 1, none⟩ = some (.int .i64 h) ∧ W2.cell? ⟨w.heap.size, 2, none⟩ = some (.func (.func lf) #[] lcap) ∧ W2.cell? ⟨w.heap.size, 3, none⟩ = some (.func (.func df) #[] dcap) ∧ W2.cell? ⟨w.heap.size, 4, none⟩ = some (ptr p) ∧ W2.cell? ⟨w.heap.size, 5, none⟩ = some (.int .i64 fh) ∧ W2.cell? ⟨w.heap.size, 6, none⟩ = some (.func (.func lf) #[] lcap) := ⟨l0.cell 0, l0.cell 1, l0.cell 2, l0.cell 3, l0.cell 4, l0.cell 5, l0.cell 6⟩
    clear hT ih l0 l1 hw hE
    unfold Gm.Makes at *
    go_enter Try.func52, Try.ntmps52
    go_upto_region 1 with (fail)
    clear hW2
    go_wp2_with fail
    refine (chainb_g p h fh lf df lcap dcap W2).mono ?_
    rintro e w3 ⟨rfl, t3⟩
    have hR := hR w3 t3
    have k4 : Turns [] w (w3.alloc (.cells (chC p h lf lcap) 93)) := (k2.trans t3).alloc _
    go_wp2_with fail
    refine hR.mono ?_
    rintro e w4 ⟨v, rfl, hc4, t4⟩
    go_wp2
    go_ret
    exact ⟨v, rfl, hc4, k4.trans t4⟩
end

end Go.Proofs.Ythkklcmmbpffiaa

/- The inbox's code over any machine: Each. -/
namespace Go.Proofs.Ythkklcmmbpffiaa
open Go.RowKit
set_option maxRecDepth 100000

theorem ent_each1 : Ent 86 := ent_of Try.func86 (by kernel_rfl) (by kernel_rfl)
theorem ent_each11 : Ent 87 := ent_of Try.func87 (by kernel_rfl) (by kernel_rfl)

section
variable {St Pr : Type} {M : Gm St Pr} {p c : Nat}

/-- what Each does, step by step: it is to read a ticket's link; what is done with the ticket then is another one's. -/
structure Gm.EachQ (A : M.Ar p c) (lk : Int → Int) (qN qI : Int → Pr) (S : Int → St → St) (DN : Int → St → Prop) : Prop where
  eN : ∀ i, M.ended (qN i) = false
  sN : ∀ i s, M.step (qN i) s = (qI (nxOf (getA (A.l s) (lk i))), S i (A.put s (A.l s) (moreA (A.l s) (lk i) (A.k s))))
  wN : ∀ i s, A.ok (A.l s) → M.W (qN i) s → DN i (A.put s (A.l s) (moreA (A.l s) (lk i) (A.k s)))

/-- what is done with a ticket: the state turns, and there is code that goes on later on. -/
def Gm.DoOk (M : Gm St Pr) (m : Nat) (w : World) (gf : FuncId) (gcap : Array Value) (qN qI : Int → Pr) (S : Int → St → St) (DN : Int → St → Prop) (E : St → Prop) (T : St → Pr × St) : Prop :=
  ∀ n, n < m → ∀ t x f' cap' w' s r, Mv M.B (M.L ++ M.X) M.ws w w' → M.J r s w' → DN t s → Ent f' → M.Cont n f' cap' w' (fun (_ : Unit) s => x < 0 → E s) (fun _ => #[]) (fun _ s => if x < 0 then T s else (qN x, s)) →
    M.Then gf (#[.int .i64 t, .func (.func f') #[] cap'] ++ gcap) w' fun v w'' => M.I r (S t s) w'' ∧ M.Code n (qI x) v w''
theorem Gm.DoOk.mv {m : Nat} {w w1 : World} {gf : FuncId} {gcap : Array Value} {qN qI : Int → Pr} {S : Int → St → St} {DN : Int → St → Prop} {E : St → Prop} {T : St → Pr × St} (h : M.DoOk m w gf gcap qN qI S DN E T) (k : Mv M.B (M.L ++ M.X) M.ws w w1) : M.DoOk m w1 gf gcap qN qI S DN E T :=
  fun n hn t x f' cap' w' s r hw => h n hn t x f' cap' w' s r (k.trans hw)
theorem Gm.DoOk.less {m n : Nat} {w : World} {gf : FuncId} {gcap : Array Value} {qN qI : Int → Pr} {S : Int → St → St} {DN : Int → St → Prop} {E : St → Prop} {T : St → Pr × St} (h : M.DoOk m w gf gcap qN qI S DN E T) (k : n ≤ m) : M.DoOk n w gf gcap qN qI S DN E T :=
  fun n' hn t x f' cap' w' s r hw => h n' (by omega) t x f' cap' w' s r hw

variable {m f b b1 b2 b3 : Nat} {h fh i : Int} {lf df gf : FuncId} {lcap dcap cap gcap : Array Value} {lk : Int → Int} {w : World} {qN qI : Int → Pr} {S : Int → St → St} {T : St → Pr × St} {DN : Int → St → Prop} {E : St → Prop}

/-- behind the last one. -/
theorem each0_g (hM : M.Ok) (hE : Ent f) (hT : M.Cont m f cap w (fun (_ : Unit) s => E s) (fun _ => #[]) (fun _ => T)) {n r : Nat} (hn : n < m) {s : St} {x : Int} (hx : x < 0) (hj : M.J r s w) (hd : E s) :
    M.Then 54 #[bxV p h fh lf df lcap dcap, .int .i64 x, .func (.func gf) #[] gcap, .func (.func f) #[] cap] w fun v w'' => M.I r (T s).2 w'' ∧ M.Code n (T s).1 v w'' := by
  have y2 := fun (a : Addr) (f : FuncId) (c : Array Value) (w : World) => run_store Try.prog w a (.func (.func f) #[] c) .plain rfl
  have hw := hM.okj hj
  obtain ⟨W2, hW2⟩ : ∃ W2, ((((w.alloc (.cells (bxC p h fh lf df lcap dcap) 62)).alloc (.cells #[.int .i64 x] 3)).alloc (.cells #[.func (.func gf) #[] gcap] 92)).alloc (.cells #[.func (.func f) #[] cap] 37)) = W2 := ⟨_, rfl⟩
  have k2 : Turns [] w W2 := by rw [← hW2]; exact ((((Turns.refl _ _).alloc _).alloc _).alloc _).alloc _
  have l1 : Lies W2 (w.heap.size + 1) 3 #[.int .i64 x] := by rw [← hW2]; exact ((Lies.new_of _ _ (by simp)).alloc _).alloc _
  have l3 : Lies W2 (w.heap.size + 1 + 1 + 1) 37 #[.func (.func f) #[] cap] := by rw [← hW2]; exact Lies.new_of _ _ (by simp)
  have ht : M.Then f (#[] ++ cap) W2 fun v w'' => M.I r (T s).2 w'' ∧ M.Code n (T s).1 v w'' := hT n hn () W2 s r (hw.mv hM k2) (hM.jmade k2 hj) hd
  have fr := hw.fr hM k2
  have d1 : W2.cell? ⟨w.heap.size + 1, 0, none⟩ = some (.int .i64 x) := l1.cell 0
  have d3 : W2.cell? ⟨w.heap.size + 1 + 1 + 1, 0, none⟩ = some (.func (.func f) #[] cap) := l3.cell 0
  clear hT hj hw k2 l1 l3
  simp only [Array.empty_append] at ht
  generalize T s = R at *
  unfold Gm.Then Ent at *
  go_enter Try.func54, Try.ntmps54
  go_upto_region 1 with (fail)
  clear hW2 y2
  go_wp2_with fail
  refine ht.mono ?_
  rintro e w2 ⟨v, rfl, hq, t2⟩
  go_wp2
  go_ret
  exact ⟨v, rfl, hq, fr.trans t2⟩

theorem each11_g (hM : M.Ok) (hE : Ent f) (hi : i = -1 ∨ Ix i) (x0 : M.Bx w b 62 (bxC p h fh lf df lcap dcap)) (x1 : M.Bx w b1 3 #[.int .i64 i]) (x2 : M.Bx w b2 92 #[.func (.func gf) #[] gcap]) (x3 : M.Bx w b3 37 #[.func (.func f) #[] cap])
    (hT : M.Cont m f cap w (fun (_ : Unit) s => E s) (fun _ => #[]) (fun _ => T))
    (ih : ∀ n, n < m → ∀ w', Mv M.B (M.L ++ M.X) M.ws w w' → M.OkW w' → ∀ j, Ix j → M.Makes n (qN j) 54 #[bxV p h fh lf df lcap dcap, .int .i64 j, .func (.func gf) #[] gcap, .func (.func f) #[] cap] w') :
    M.Cont m 87 #[ptr b, ptr b1, ptr b2, ptr b3] w (fun (_ : Unit) s => i < 0 → E s) (fun _ => #[]) (fun _ s => if i < 0 then T s else (qN i, s)) := by
  intro n hn x w' s r hm hj hd
  have l0 := (x0.mv hm).l
  obtain ⟨c0, c1, c2, c3, c4, c5, c6⟩ : w'.cell? ⟨b, 0, none⟩ = some (ptr p) ∧ w'.cell? ⟨b, 1, none⟩ = some (.int .i64 h) ∧ w'.cell? ⟨b, 2, none⟩ = some (.func (.func lf) #[] lcap) ∧ w'.cell? ⟨b, 3, none⟩ = some (.func (.func df) #[] dcap) ∧ w'.cell? ⟨b, 4, none⟩ = some (ptr p) ∧ w'.cell? ⟨b, 5, none⟩ = some (.int .i64 fh) ∧ w'.cell? ⟨b, 6, none⟩ = some (.func (.func lf) #[] lcap) := ⟨l0.cell 0, l0.cell 1, l0.cell 2, l0.cell 3, l0.cell 4, l0.cell 5, l0.cell 6⟩
  have d0 := (x1.mv hm).cell
  have e0 := (x2.mv hm).cell
  have g0 := (x3.mv hm).cell
  have ht : M.Then 54 #[bxV p h fh lf df lcap dcap, .int .i64 i, .func (.func gf) #[] gcap, .func (.func f) #[] cap] w' fun v w'' => M.I r (if i < 0 then T s else (qN i, s)).2 w'' ∧ M.Code n (if i < 0 then T s else (qN i, s)).1 v w'' := by
    by_cases hz : i < 0
    · rw [if_pos hz]
      exact each0_g hM hE (hT.mv hm) hn hz hj (hd hz)
    · rw [if_neg hz]
      exact (ih n hn w' hm (hM.okj hj) i (hi.resolve_left (by omega))).then hM hj
  clear hT hj hm ih x0 x1 x2 x3 l0
  show M.Then _ #[ptr b, ptr b1, ptr b2, ptr b3] w' (fun v w'' => M.I r (if i < 0 then T s else (qN i, s)).2 w'' ∧ M.Code n (if i < 0 then T s else (qN i, s)).1 v w'')
  generalize (if i < 0 then T s else (qN i, s)) = R at *
  unfold Gm.Then Ent at *
  go_enter Try.func87, Try.ntmps87
  go_wp2_with fail
  refine ht.mono ?_
  rintro e w2 ⟨v, rfl, hq, t2⟩
  go_wp2
  go_ret
  exact ⟨v, rfl, hq, t2⟩
theorem each1_g (hM : M.Ok) (hE : Ent f) (hD : M.DoOk m w gf gcap qN qI S DN E T) (hG : Ent gf) (x0 : M.Bx w b 62 (bxC p h fh lf df lcap dcap)) (x1 : M.Bx w b1 3 #[.int .i64 i]) (x2 : M.Bx w b2 92 #[.func (.func gf) #[] gcap]) (x3 : M.Bx w b3 37 #[.func (.func f) #[] cap])
    (hT : M.Cont m f cap w (fun (_ : Unit) s => E s) (fun _ => #[]) (fun _ => T))
    (ih : ∀ n, n < m → ∀ w', Mv M.B (M.L ++ M.X) M.ws w w' → M.OkW w' → ∀ j, Ix j → M.Makes n (qN j) 54 #[bxV p h fh lf df lcap dcap, .int .i64 j, .func (.func gf) #[] gcap, .func (.func f) #[] cap] w') :
    M.Cont m 86 #[ptr b2, ptr b1, ptr b, ptr b3] w (fun x s => N64 x ∧ DN i s) (fun x => #[.int .i64 (nxOf x)]) (fun x s => (qI (nxOf x), S i s)) := by
  intro n hn x w' s r hm hj hx
  have hw := hM.okj hj
  have hnx := nxOf_in hx.1
  generalize hy : nxOf x = y at *
  have tu : Turns [] w' (w'.alloc (.cells #[.int .i64 y] 3)) := (Turns.refl _ _).alloc _
  have lF : Lies (w'.alloc (.cells #[.int .i64 y] 3)) w'.heap.size 3 #[.int .i64 y] := Lies.new _ _ _
  have x4 := hw.box hM tu (Nat.le_refl _) lF (by decide)
  have hm2 := hm.trans (hw.mv hM tu)
  have x0 := x0.mv hm2
  have x1 := x1.mv hm2
  have x2 := x2.mv hm2
  have x3 := x3.mv hm2
  have d0 := x1.cell
  have e0 := x2.cell
  have fr := hw.fr hM tu
  have hmf := hmf_run
  have ht := hD n hn i y 87 #[ptr b, ptr w'.heap.size, ptr b2, ptr b3] _ s r hm2 (hM.jmade tu hj) hx.2 ent_each11 (each11_g (m := n) hM hE (by unfold Ix0 at hnx; unfold Ix; omega) x0 x4 x2 x3 ((hT.mv hm2).less (by omega)) (fun k hk w2 h1 h2 => ih k (by omega) w2 (hm2.trans h1) h2))
  clear hT hj hm hm2 ih x0 x1 x2 x3 x4 lF hD hnx hw hx
  have hg : M.Then 86 #[.int .i64 y, ptr b2, ptr b1, ptr b, ptr b3] w' (fun v w'' => M.I r (S i s) w'' ∧ M.Code n (qI y) v w'') := by
    generalize S i s = R at *
    generalize qI y = q at *
    unfold Gm.Then Ent at *
    go_enter Try.func86, Try.ntmps86
    go_wp2_with fail
    refine ht.mono ?_
    rintro e w2 ⟨v, rfl, hq, t2⟩
    go_wp2
    go_ret
    exact ⟨v, rfl, hq, fr.trans t2⟩
  show M.Then _ #[.int .i64 (nxOf x), ptr b2, ptr b1, ptr b, ptr b3] w' (fun v w'' => M.I r (S i s) w'' ∧ M.Code n (qI (nxOf x)) v w'')
  rw [hy]
  exact hg

theorem each_g (A : M.Ar p c) (hM : M.Ok) (hQ : Gm.EachQ A lk qN qI S DN) : ∀ m (f : Nat) (cap : Array Value) (w : World), Ent f → Ent gf → M.OkW w → M.Lk w lf lcap lk → M.DoOk m w gf gcap qN qI S DN E T → M.Cont m f cap w (fun (_ : Unit) s => E s) (fun _ => #[]) (fun _ => T) → ∀ i, Ix i →
    M.Makes m (qN i) 54 #[bxV p h fh lf df lcap dcap, .int .i64 i, .func (.func gf) #[] gcap, .func (.func f) #[] cap] w := by
  intro m
  induction m using Nat.strongRecOn with
  | _ m ih =>
    intro f cap w hE hG hw hL hD hT i hi
    have hmf := hmf_run
    obtain ⟨W2, hW2⟩ : ∃ W2, ((((w.alloc (.cells (bxC p h fh lf df lcap dcap) 62)).alloc (.cells #[.int .i64 i] 3)).alloc (.cells #[.func (.func gf) #[] gcap] 92)).alloc (.cells #[.func (.func f) #[] cap] 37)) = W2 := ⟨_, rfl⟩
    have k2 : Turns [] w W2 := by rw [← hW2]; exact ((((Turns.refl _ _).alloc _).alloc _).alloc _).alloc _
    have l0 : Lies W2 w.heap.size 62 (bxC p h fh lf df lcap dcap) := by rw [← hW2]; exact (((Lies.new _ _ _).alloc _).alloc _).alloc _
    have l1 : Lies W2 (w.heap.size + 1) 3 #[.int .i64 i] := by rw [← hW2]; exact ((Lies.new_of _ _ (by simp)).alloc _).alloc _
    have l2 : Lies W2 (w.heap.size + 1 + 1) 92 #[.func (.func gf) #[] gcap] := by rw [← hW2]; exact (Lies.new_of _ _ (by simp)).alloc _
    have l3 : Lies W2 (w.heap.size + 1 + 1 + 1) 37 #[.func (.func f) #[] cap] := by rw [← hW2]; exact Lies.new_of _ _ (by simp)
    have hN : ∀ w3, Turns [] W2 w3 → M.Makes m (qN i) 85 #[chV p h lf lcap, .int .i64 i, .func (.func 86) #[] #[ptr (w.heap.size + 1 + 1), ptr (w.heap.size + 1), ptr w.heap.size, ptr (w.heap.size + 1 + 1 + 1)]] w3 := fun w3 h3 => by
      have k4 := k2.trans h3
      have hm4 := hw.mv hM k4
      exact next_g (m := m) (h := h) (lf := lf) (lcap := lcap) (T := fun x s => (qI (nxOf x), S i s)) A hM (V := fun _ s => DN i s) (fun s hok hw => hQ.wN i s hok hw) ent_each1 (hw.made hM k4) (hL.mv hm4) hi (hQ.eN i) (each1_g hM hE (hD.mv hm4) hG (hw.box hM k4 (Nat.le_refl _) (l0.turn h3 (by simp)) (by decide)) (hw.box hM k4 (by omega) (l1.turn h3 (by simp)) (by decide)) (hw.box hM k4 (by omega) (l2.turn h3 (by simp)) (by decide)) (hw.box hM k4 (by omega) (l3.turn h3 (by simp)) (by decide)) (hT.mv hm4)
        (fun n hn w' h1 h2 j hj => ih n hn f cap w' hE hG h2 ((hL.mv hm4).mv h1) (((hD.mv hm4).mv h1).less (by omega)) (((hT.mv hm4).mv h1).less (by omega)) j hj)) (hQ.sN i)
    obtain ⟨c0, c1, c2, c3, c4, c5, c6⟩ : W2.cell? ⟨w.heap.size, 0, none⟩ = some (ptr p) ∧ W2.cell? ⟨w.heap.size, 1, none⟩ = some (.int .i64 h) ∧ W2.cell? ⟨w.heap.size, 2, none⟩ = some (.func (.func lf) #[] lcap) ∧ W2.cell? ⟨w.heap.size, 3, none⟩ = some (.func (.func df) #[] dcap) ∧ W2.cell? ⟨w.heap.size, 4, none⟩ = some (ptr p) ∧ W2.cell? ⟨w.heap.size, 5, none⟩ = some (.int .i64 fh) ∧ W2.cell? ⟨w.heap.size, 6, none⟩ = some (.func (.func lf) #[] lcap) := ⟨l0.cell 0, l0.cell 1, l0.cell 2, l0.cell 3, l0.cell 4, l0.cell 5, l0.cell 6⟩
    have d1 : W2.cell? ⟨w.heap.size + 1, 0, none⟩ = some (.int .i64 i) := l1.cell 0
    have g0 := l0.lt
    have g1 := l1.lt
    have hi0 : ¬ (i < 0) := by unfold Ix at hi; omega
    have hch := fun W => chainb_g p h fh lf df lcap dcap W
    clear hT ih l0 l1 l2 l3 hw hE hG hD hL hi
    unfold Gm.Makes at *
    go_enter Try.func54, Try.ntmps54
    go_upto_region 3 with (fail)
    clear hW2
    go_region_held3 (fun W' => W'.cell? ⟨w.heap.size, 0, none⟩ = some (ptr p) ∧ W'.cell? ⟨w.heap.size, 1, none⟩ = some (.int .i64 h) ∧ W'.cell? ⟨w.heap.size, 2, none⟩ = some (.func (.func lf) #[] lcap) ∧ W'.cell? ⟨w.heap.size, 3, none⟩ = some (.func (.func df) #[] dcap) ∧ W'.cell? ⟨w.heap.size, 4, none⟩ = some (ptr p) ∧ W'.cell? ⟨w.heap.size, 5, none⟩ = some (.int .i64 fh) ∧ W'.cell? ⟨w.heap.size, 6, none⟩ = some (.func (.func lf) #[] lcap) ∧ W'.cell? ⟨w.heap.size + 1, 0, none⟩ = some (.int .i64 i))
      (first | exact ⟨c0, c1, c2, c3, c4, c5, c6, d1⟩ | exact kA | exact kB)
      (first
        | (go_at_call 85
           refine (hN _ t1).mono ?_
           rintro e w4 ⟨v, rfl, hc4, t4⟩
           have t5 := t1.trans t4
           have kB := And.intro ((t5.cell (p := ⟨w.heap.size, 0, none⟩) g0 (by simp)).trans c0) (And.intro ((t5.cell (p := ⟨w.heap.size, 1, none⟩) g0 (by simp)).trans c1) (And.intro ((t5.cell (p := ⟨w.heap.size, 2, none⟩) g0 (by simp)).trans c2) (And.intro ((t5.cell (p := ⟨w.heap.size, 3, none⟩) g0 (by simp)).trans c3) (And.intro ((t5.cell (p := ⟨w.heap.size, 4, none⟩) g0 (by simp)).trans c4) (And.intro ((t5.cell (p := ⟨w.heap.size, 5, none⟩) g0 (by simp)).trans c5) (And.intro ((t5.cell (p := ⟨w.heap.size, 6, none⟩) g0 (by simp)).trans c6) ((t5.cell (p := ⟨w.heap.size + 1, 0, none⟩) g1 (by simp)).trans d1))))))))
        | (refine (hch _).mono ?_
           rintro e w3 ⟨rfl, t0⟩
           have t1 : Turns [] W2 w3 := ((Turns.refl [] W2).drew).trans t0
           have kA := And.intro ((t1.cell (p := ⟨w.heap.size, 0, none⟩) g0 (by simp)).trans c0) (And.intro ((t1.cell (p := ⟨w.heap.size, 1, none⟩) g0 (by simp)).trans c1) (And.intro ((t1.cell (p := ⟨w.heap.size, 2, none⟩) g0 (by simp)).trans c2) (And.intro ((t1.cell (p := ⟨w.heap.size, 3, none⟩) g0 (by simp)).trans c3) (And.intro ((t1.cell (p := ⟨w.heap.size, 4, none⟩) g0 (by simp)).trans c4) (And.intro ((t1.cell (p := ⟨w.heap.size, 5, none⟩) g0 (by simp)).trans c5) (And.intro ((t1.cell (p := ⟨w.heap.size, 6, none⟩) g0 (by simp)).trans c6) ((t1.cell (p := ⟨w.heap.size + 1, 0, none⟩) g1 (by simp)).trans d1))))))))
      )
    all_goals
      go_wp2
      go_ret
      exact ⟨v, rfl, hc4, k2.trans t5⟩
end

end Go.Proofs.Ythkklcmmbpffiaa

/- The inbox's code over any machine: Put: what frees a dead ticket. -/
namespace Go.Proofs.Ythkklcmmbpffiaa
open Go.RowKit
set_option maxRecDepth 100000

theorem ent_put1 : Ent 76 := ent_of Try.func76 (by kernel_rfl) (by kernel_rfl)
theorem ent_put2 : Ent 77 := ent_of Try.func77 (by kernel_rfl) (by kernel_rfl)
theorem ent_put21 : Ent 79 := ent_of Try.func79 (by kernel_rfl) (by kernel_rfl)
theorem ent_put211 : Ent 81 := ent_of Try.func81 (by kernel_rfl) (by kernel_rfl)
theorem ent_help1 : Ent 101 := ent_of Try.func101 (by kernel_rfl) (by kernel_rfl)

section
variable {St Pr : Type} {M : Gm St Pr} {p c : Nat}

/-- what a Put does, step by step. -/
structure Gm.PutQ (A : M.Ar p c) (h fh : Int) (lk mk : Int → Int) (t : Int) (qR : Pr) (qD qS qU qN : Int → Pr) (qT : Int → Int → Pr) (qA : Int → Pr) (qB qC : Int → Int → Pr) (E : St → Prop) (T : St → Pr × St) : Prop where
  eR : M.ended qR = false
  eD : ∀ o, M.ended (qD o) = false
  eS : ∀ o, M.ended (qS o) = false
  eU : ∀ o, M.ended (qU o) = false
  eN : ∀ o, M.ended (qN o) = false
  eT : ∀ o y, M.ended (qT o y) = false
  sR : ∀ s, M.step qR s = (if hIx (getA (A.l s) h) = -1 then qS (getA (A.l s) h) else qD (getA (A.l s) h), A.put s (A.l s) (moreA (A.l s) h (A.k s)))
  sD : ∀ o s, M.step (qD o) s = (if getA (A.l s) (mk (hIx o)) = 1 then qN o else qS o, A.put s (A.l s) (moreA (A.l s) (mk (hIx o)) (A.k s)))
  sN : ∀ o s, M.step (qN o) s = (qT o (nxOf (getA (A.l s) (lk (hIx o)))), A.put s (A.l s) (moreA (A.l s) (lk (hIx o)) (A.k s)))
  sT : ∀ o y s, M.step (qT o y) s = (if casB (A.l s) h o = true then qA (hIx o) else qR, A.put s (casA (A.l s) h o (newH o y)) (moreA (A.l s) h (A.k s)))
  free : ∀ i, Gm.PushQ A fh lk i (qA i) (qB i) (qC i) (fun _ => True) (fun s => (qR, s))
  sS : ∀ o s, M.step (qS o) s = (qU o, A.put s (setA (A.l s) (lk t) (hIx o + 1)) (moreA (A.l s) (lk t) (A.k s)))
  sU : ∀ o s, M.step (qU o) s = if casB (A.l s) h o = true then T (A.put s (casA (A.l s) h o (newH o t)) (moreA (A.l s) h (A.k s))) else (qR, A.put s (casA (A.l s) h o (newH o t)) (moreA (A.l s) h (A.k s)))
  wU : ∀ o s, A.ok (A.l s) → M.W (qU o) s → casB (A.l s) h o = true → E (A.put s (casA (A.l s) h o (newH o t)) (moreA (A.l s) h (A.k s)))

variable {m f b b1 b2 b3 : Nat} {h fh i o t : Int} {lf df : FuncId} {lcap dcap cap : Array Value} {lk mk : Int → Int} {w : World} {qR : Pr} {qD qS qU qN qA : Int → Pr} {qT qB qC : Int → Int → Pr} {T : St → Pr × St} {V U Y V' U' Y' : Int → Prop} {E : St → Prop}

theorem help1_g (A : M.Ar p c) (hM : M.Ok) (hF : Gm.ChOk A fh lk V' U' Y') (hY : Y' i) (hP : Gm.PushQ A fh lk i (qA i) (qB i) (qC i) (fun _ => True) (fun s => (qR, s))) (hE : Ent f) (hL : M.Lk w lf lcap lk) (x0 : M.Bx w b 37 #[.func (.func f) #[] cap]) (x1 : M.Bx w b1 62 (bxC p h fh lf df lcap dcap)) (x2 : M.Bx w b2 3 #[.int .i64 i])
    (hT : M.Cont m f cap w (fun (_ : Unit) _ => True) (fun _ => #[]) (fun _ s => (qR, s))) :
    M.Cont m 101 #[ptr b, ptr b1, ptr b2] w (fun (_ : Bool) _ => True) (fun b => #[.bool b]) (fun b s => (if b = true then qA i else qR, s)) := by
  intro n hn x w' s r hm hj _
  have l0 := (x1.mv hm).l
  obtain ⟨c4, c5, c6⟩ : w'.cell? ⟨b1, 4, none⟩ = some (ptr p) ∧ w'.cell? ⟨b1, 5, none⟩ = some (.int .i64 fh) ∧ w'.cell? ⟨b1, 6, none⟩ = some (.func (.func lf) #[] lcap) := ⟨l0.cell 4, l0.cell 5, l0.cell 6⟩
  have d0 := (x0.mv hm).cell
  have e0 := (x2.mv hm).cell
  cases x with
  | false =>
    have ht : M.Then f (#[] ++ cap) w' fun v w'' => M.I r s w'' ∧ M.Code n qR v w'' := hT n hn () w' s r hm hj trivial
    clear hT hj hm x0 x1 x2 l0
    show M.Then _ #[.bool false, ptr b, ptr b1, ptr b2] w' (fun v w'' => M.I r s w'' ∧ M.Code n qR v w'')
    simp only [Array.empty_append] at ht
    unfold Gm.Then Ent at *
    go_enter Try.func101, Try.ntmps101
    go_wp2_with fail
    refine ht.mono ?_
    rintro e w2 ⟨v, rfl, hq, t2⟩
    go_wp2
    go_ret
    exact ⟨v, rfl, hq, t2⟩
  | true =>
    have ht := (push_g A hM hF hY hP n f cap w' hE (hM.okj hj) (hL.mv hm) (hF.begin hY (hM.ji _ _ _ hj)) ((hT.mv hm).less (by omega))).then hM hj
    clear hT hj hm x0 x1 x2 l0
    show M.Then _ #[.bool true, ptr b, ptr b1, ptr b2] w' (fun v w'' => M.I r s w'' ∧ M.Code n (qA i) v w'')
    unfold Gm.Then Ent at *
    go_enter Try.func101, Try.ntmps101
    go_wp2_with fail
    refine ht.mono ?_
    rintro e w2 ⟨v, rfl, hq, t2⟩
    go_wp2
    go_ret
    exact ⟨v, rfl, hq, t2⟩

theorem help_g (A : M.Ar p c) (hM : M.Ok) (hC : Gm.ChOk A h lk V U Y) (hF : Gm.ChOk A fh lk V' U' Y') (hQ : Gm.PutQ A h fh lk mk t qR qD qS qU qN qT qA qB qC E T) (ho : N64 o) (hV : V o) (hz : hIx o ≠ -1) (hY : Y' (hIx o)) (hE : Ent f) (hw : M.OkW w) (hL : M.Lk w lf lcap lk)
    (hT : M.Cont m f cap w (fun (_ : Unit) _ => True) (fun _ => #[]) (fun _ s => (qR, s))) :
    M.Makes m (qN o) 80 #[bxV p h fh lf df lcap dcap, .int .u64 o, .int .i64 (hIx o), .func (.func f) #[] cap] w := by
  have hmf := hmf_run
  obtain ⟨W2, hW2⟩ : ∃ W2, (((w.alloc (.cells (bxC p h fh lf df lcap dcap) 62)).alloc (.cells #[.int .i64 (hIx o)] 3)).alloc (.cells #[.func (.func f) #[] cap] 37)) = W2 := ⟨_, rfl⟩
  have k2 : Turns [] w W2 := by rw [← hW2]; exact (((Turns.refl _ _).alloc _).alloc _).alloc _
  have l0 : Lies W2 w.heap.size 62 (bxC p h fh lf df lcap dcap) := by rw [← hW2]; exact ((Lies.new _ _ _).alloc _).alloc _
  have l1 : Lies W2 (w.heap.size + 1) 3 #[.int .i64 (hIx o)] := by rw [← hW2]; exact (Lies.new_of _ _ (by simp)).alloc _
  have l2 : Lies W2 (w.heap.size + 1 + 1) 37 #[.func (.func f) #[] cap] := by rw [← hW2]; exact Lies.new_of _ _ (by simp)
  have hN : ∀ w3, Turns [] W2 w3 → M.Makes m (qN o) 64 #[chV p h lf lcap, .int .u64 o, .func (.func 101) #[] #[ptr (w.heap.size + 1 + 1), ptr w.heap.size, ptr (w.heap.size + 1)]] w3 := fun w3 h3 => by
    have k4 := k2.trans h3
    have hm4 := hw.mv hM k4
    exact take_g (T := fun b s => (if b = true then qA (hIx o) else qR, s)) A hM (V := U) (fun l hl => hC.nx l o hl hV hz) (fun y h1 h2 l hl => hC.tk l o y hl ho hV hz h1 h2) (D := fun _ _ => True) (fun _ _ _ _ _ => trivial) ent_help1 (hw.made hM k4) (hL.mv hm4) ho hz (hQ.eN o) (hQ.eT o)
      (help1_g A hM hF hY (hQ.free _) hE (hL.mv hm4) (hw.box hM k4 (by omega) (l2.turn h3 (by simp)) (by decide)) (hw.box hM k4 (Nat.le_refl _) (l0.turn h3 (by simp)) (by decide)) (hw.box hM k4 (by omega) (l1.turn h3 (by simp)) (by decide)) (hT.mv hm4)) (hQ.sN o) (fun y s _ => hQ.sT o y s)
  obtain ⟨c0, c1, c2, c3, c4, c5, c6⟩ : W2.cell? ⟨w.heap.size, 0, none⟩ = some (ptr p) ∧ W2.cell? ⟨w.heap.size, 1, none⟩ = some (.int .i64 h) ∧ W2.cell? ⟨w.heap.size, 2, none⟩ = some (.func (.func lf) #[] lcap) ∧ W2.cell? ⟨w.heap.size, 3, none⟩ = some (.func (.func df) #[] dcap) ∧ W2.cell? ⟨w.heap.size, 4, none⟩ = some (ptr p) ∧ W2.cell? ⟨w.heap.size, 5, none⟩ = some (.int .i64 fh) ∧ W2.cell? ⟨w.heap.size, 6, none⟩ = some (.func (.func lf) #[] lcap) := ⟨l0.cell 0, l0.cell 1, l0.cell 2, l0.cell 3, l0.cell 4, l0.cell 5, l0.cell 6⟩
  have hch := fun W => chainb_g p h fh lf df lcap dcap W
  clear hT l0 l1 l2 hw hE hL hQ hC hF hz
  generalize hIx o = y at *
  generalize qN o = q at *
  unfold Gm.Makes at *
  go_enter Try.func80, Try.ntmps80
  go_upto_region 1 with (fail)
  clear hW2
  go_wp2_with fail
  refine (hch _).mono ?_
  rintro e w3 ⟨rfl, t3⟩
  have hN := hN w3 t3
  go_wp2_with fail
  refine hN.mono ?_
  rintro e w4 ⟨v, rfl, hc4, t4⟩
  go_wp2
  go_ret
  exact ⟨v, rfl, hc4, (k2.trans t3).trans t4⟩
end

end Go.Proofs.Ythkklcmmbpffiaa

/- The inbox's code over any machine: Put. -/
namespace Go.Proofs.Ythkklcmmbpffiaa
open Go.RowKit
set_option maxRecDepth 100000

section
variable {St Pr : Type} {M : Gm St Pr} {p c : Nat}

/-- how a box tells whether a ticket is dead: by a step, and it goes on with what that finds. -/
def Gm.DeadOk (M : Gm St Pr) (w : World) (df : FuncId) (dcap : Array Value) (V : Int → Prop) (qD qS qN : Int → Pr) : Prop :=
  Ent df ∧ ∀ m o w' f cap, Mv M.B (M.L ++ M.X) M.ws w w' → M.OkW w' → N64 o → V o → hIx o ≠ -1 → Ent f → M.Cont m f cap w' (fun (_ : Bool) _ => True) (fun b => #[.bool b]) (fun b s => (if b = true then qN o else qS o, s)) →
    M.Makes m (qD o) df (#[.int .i64 (hIx o), .func (.func f) #[] cap] ++ dcap) w'
theorem Gm.DeadOk.mv {w w1 : World} {df : FuncId} {dcap : Array Value} {V : Int → Prop} {qD qS qN : Int → Pr} (h : M.DeadOk w df dcap V qD qS qN) (k : Mv M.B (M.L ++ M.X) M.ws w w1) : M.DeadOk w1 df dcap V qD qS qN :=
  ⟨h.1, fun m o w' f cap hw => h.2 m o w' f cap (k.trans hw)⟩

variable {m f fa b b1 b2 b3 b4 b5 b6 : Nat} {h fh i o t : Int} {lf df : FuncId} {lcap dcap cap acap : Array Value} {lk mk : Int → Int} {w : World} {q qR : Pr} {qD qS qU qN qA : Int → Pr} {qT qB qC : Int → Int → Pr} {T : St → Pr × St} {V U Y V' U' Y' : Int → Prop} {E : St → Prop} {Q : Value → World → Prop}

theorem ifdead0_g (hM : M.Ok) (hE : Ent f) (hw : M.OkW w) (hT : ∀ W, Turns [] w W → M.Then f (#[.bool false] ++ cap) W Q) :
    M.Then 78 #[bxV p h fh lf df lcap dcap, .int .i64 (-1), .func (.func f) #[] cap] w Q := by
  have k : Turns [] w (w.alloc (.cells (bxC p h fh lf df lcap dcap) 62)) := (Turns.refl _ _).alloc _
  have ht := hT _ k
  have fr := hw.fr hM k
  clear hT hw k
  unfold Gm.Then Ent at *
  go_enter Try.func78, Try.ntmps78
  go_wp2_with fail
  refine ht.mono ?_
  rintro e w2 ⟨v, rfl, hq, t2⟩
  go_wp2
  go_ret
  exact ⟨v, rfl, hq, fr.trans t2⟩

theorem ifdead1_g (hE : Ent df) (hi : i ≠ -1) (hT : ∀ W, Turns [] w W → M.Makes m q df (#[.int .i64 i, .func (.func f) #[] cap] ++ dcap) W) :
    M.Makes m q 78 #[bxV p h fh lf df lcap dcap, .int .i64 i, .func (.func f) #[] cap] w := by
  have k : Turns [] w (w.alloc (.cells (bxC p h fh lf df lcap dcap) 62)) := (Turns.refl _ _).alloc _
  have ht := hT _ k
  have hz : (i == -1) = false := by simp [hi]
  clear hT
  unfold Gm.Makes Ent at *
  go_enter Try.func78, Try.ntmps78
  go_wp2_with fail
  refine ht.mono ?_
  rintro e w2 ⟨v, rfl, hq, t2⟩
  go_wp2
  go_ret
  exact ⟨v, rfl, hq, k.trans t2⟩

/-- all anew. -/
theorem put1_g (A : M.Ar p c) (hM : M.Ok) (hC : Gm.ChOk A h lk V U Y) (hY : Y t) (x0 : M.Bx w b 62 (bxC p h fh lf df lcap dcap)) (x1 : M.Bx w b1 3 #[.int .i64 t]) (x2 : M.Bx w b2 37 #[.func (.func f) #[] cap])
    (ih : ∀ n, n < m → ∀ w', Mv M.B (M.L ++ M.X) M.ws w w' → M.OkW w' → Room w' p c h (lk t) → M.Makes n qR 50 #[bxV p h fh lf df lcap dcap, .int .i64 t, .func (.func f) #[] cap] w') :
    M.Cont m 76 #[ptr b, ptr b1, ptr b2] w (fun (_ : Unit) _ => True) (fun _ => #[]) (fun _ s => (qR, s)) := by
  intro n hn x w' s r hm hj _
  have l0 := (x0.mv hm).l
  obtain ⟨c0, c1, c2, c3, c4, c5, c6⟩ : w'.cell? ⟨b, 0, none⟩ = some (ptr p) ∧ w'.cell? ⟨b, 1, none⟩ = some (.int .i64 h) ∧ w'.cell? ⟨b, 2, none⟩ = some (.func (.func lf) #[] lcap) ∧ w'.cell? ⟨b, 3, none⟩ = some (.func (.func df) #[] dcap) ∧ w'.cell? ⟨b, 4, none⟩ = some (ptr p) ∧ w'.cell? ⟨b, 5, none⟩ = some (.int .i64 fh) ∧ w'.cell? ⟨b, 6, none⟩ = some (.func (.func lf) #[] lcap) := ⟨l0.cell 0, l0.cell 1, l0.cell 2, l0.cell 3, l0.cell 4, l0.cell 5, l0.cell 6⟩
  have d0 := (x1.mv hm).cell
  have e0 := (x2.mv hm).cell
  have ht := (ih n hn w' hm (hM.okj hj) (hC.begin hY (hM.ji _ _ _ hj))).then hM hj
  clear hj hm ih x0 x1 x2 l0
  show M.Then _ #[ptr b, ptr b1, ptr b2] w' (fun v w'' => M.I r s w'' ∧ M.Code n qR v w'')
  unfold Gm.Then at *
  go_enter Try.func76, Try.ntmps76
  go_wp2_with fail
  refine ht.mono ?_
  rintro e w2 ⟨v, rfl, hq, t2⟩
  go_wp2
  go_ret
  exact ⟨v, rfl, hq, t2⟩

theorem put211_g (hEa : Ent fa) (hE : Ent f) (x0 : M.Bx w b 37 #[.func (.func fa) #[] acap]) (x1 : M.Bx w b1 37 #[.func (.func f) #[] cap])
    (hA : M.Cont m fa acap w (fun (_ : Unit) _ => True) (fun _ => #[]) (fun _ s => (qR, s))) (hT : M.Cont m f cap w (fun (_ : Unit) s => E s) (fun _ => #[]) (fun _ => T)) :
    M.Cont m 81 #[ptr b, ptr b1] w (fun b s => b = true → E s) (fun b => #[.bool b]) (fun b s => if b = true then T s else (qR, s)) := by
  intro n hn x w' s r hm hj hd
  have d0 := (x0.mv hm).cell
  have e0 := (x1.mv hm).cell
  cases x with
  | false =>
    have ht : M.Then fa (#[] ++ acap) w' fun v w'' => M.I r s w'' ∧ M.Code n qR v w'' := hA n hn () w' s r hm hj trivial
    clear hA hT hj hm x0 x1
    show M.Then _ #[.bool false, ptr b, ptr b1] w' (fun v w'' => M.I r s w'' ∧ M.Code n qR v w'')
    simp only [Array.empty_append] at ht
    unfold Gm.Then Ent at *
    go_enter Try.func81, Try.ntmps81
    go_wp2_with fail
    refine ht.mono ?_
    rintro e w2 ⟨v, rfl, hq, t2⟩
    go_wp2
    go_ret
    exact ⟨v, rfl, hq, t2⟩
  | true =>
    have ht : M.Then f (#[] ++ cap) w' fun v w'' => M.I r (T s).2 w'' ∧ M.Code n (T s).1 v w'' := hT n hn () w' s r hm hj (hd rfl)
    clear hA hT hj hm x0 x1
    show M.Then _ #[.bool true, ptr b, ptr b1] w' (fun v w'' => M.I r (T s).2 w'' ∧ M.Code n (T s).1 v w'')
    generalize T s = R at *
    simp only [Array.empty_append] at ht
    unfold Gm.Then Ent at *
    go_enter Try.func81, Try.ntmps81
    go_wp2_with fail
    refine ht.mono ?_
    rintro e w2 ⟨v, rfl, hq, t2⟩
    go_wp2
    go_ret
    exact ⟨v, rfl, hq, t2⟩

/-- behind the finding. -/
theorem put21_g (A : M.Ar p c) (hM : M.Ok) (hC : Gm.ChOk A h lk V U Y) (hF : Gm.ChOk A fh lk V' U' Y') (hQ : Gm.PutQ A h fh lk mk t qR qD qS qU qN qT qA qB qC E T) (ho : N64 o) (hV : V o) (hY : Y t) (hY' : hIx o ≠ -1 → Y' (hIx o)) (hEa : Ent fa) (hE : Ent f) (hL : M.Lk w lf lcap lk)
    (x0 : M.Bx w b 62 (bxC p h fh lf df lcap dcap)) (x1 : M.Bx w b1 75 #[.int .u64 o]) (x2 : M.Bx w b2 3 #[.int .i64 (hIx o)]) (x3 : M.Bx w b3 37 #[.func (.func fa) #[] acap]) (x4 : M.Bx w b4 93 (chC p h lf lcap)) (x5 : M.Bx w b5 3 #[.int .i64 t]) (x6 : M.Bx w b6 37 #[.func (.func f) #[] cap])
    (hA : M.Cont m fa acap w (fun (_ : Unit) _ => True) (fun _ => #[]) (fun _ s => (qR, s))) (hT : M.Cont m f cap w (fun (_ : Unit) s => E s) (fun _ => #[]) (fun _ => T)) :
    M.Cont m 79 #[ptr b, ptr b1, ptr b2, ptr b3, ptr b4, ptr b5, ptr b6] w (fun b _ => b = true → hIx o ≠ -1) (fun b => #[.bool b]) (fun b s => (if b = true then qN o else qS o, s)) := by
  intro n hn x w' s r hm hj hd
  have hw := hM.okj hj
  have l0 := (x0.mv hm).l
  have hmf := hmf_run
  obtain ⟨c0, c1, c2, c3, c4, c5, c6⟩ : w'.cell? ⟨b, 0, none⟩ = some (ptr p) ∧ w'.cell? ⟨b, 1, none⟩ = some (.int .i64 h) ∧ w'.cell? ⟨b, 2, none⟩ = some (.func (.func lf) #[] lcap) ∧ w'.cell? ⟨b, 3, none⟩ = some (.func (.func df) #[] dcap) ∧ w'.cell? ⟨b, 4, none⟩ = some (ptr p) ∧ w'.cell? ⟨b, 5, none⟩ = some (.int .i64 fh) ∧ w'.cell? ⟨b, 6, none⟩ = some (.func (.func lf) #[] lcap) := ⟨l0.cell 0, l0.cell 1, l0.cell 2, l0.cell 3, l0.cell 4, l0.cell 5, l0.cell 6⟩
  have d1 := (x1.mv hm).cell
  have d2 := (x2.mv hm).cell
  have d3 := (x3.mv hm).cell
  have d5 := (x5.mv hm).cell
  obtain ⟨g0, g1, g2⟩ := ch_cells (x4.mv hm).l
  cases x with
  | false =>
    have ht := (lay_g (m := n) (f := 81) (cap := #[ptr b3, ptr b6]) (T := fun bb s => if bb = true then T s else (qR, s)) A hM (fun l hl => hC.ly l o t hl hV hY) (fun l hl => hC.tn l o t hl ho hV hY) (D := fun b s => b = true → E s) (fun s hok hw hb => hQ.wU o s hok hw hb) ent_put211 hw (hL.mv hm) ho (hC.ix t hY) (hQ.eS o) (hQ.eU o) (put211_g hEa hE (x3.mv hm) (x6.mv hm) ((hA.mv hm).less (by omega)) ((hT.mv hm).less (by omega))) (hQ.sS o) (hQ.sU o)).then hM hj
    clear hA hT hj hm x0 x1 x2 x3 x4 x5 x6 l0 hQ hC hF hY' hw hL c0 c1 c2 c3 c4 c5 c6
    show M.Then _ #[.bool false, ptr b, ptr b1, ptr b2, ptr b3, ptr b4, ptr b5, ptr b6] w' (fun v w'' => M.I r s w'' ∧ M.Code n (qS o) v w'')
    unfold Gm.Then Ent at *
    go_enter Try.func79, Try.ntmps79
    go_wp2_with fail
    refine ht.mono ?_
    rintro e w2 ⟨v, rfl, hq, t2⟩
    go_wp2
    go_ret
    exact ⟨v, rfl, hq, t2⟩
  | true =>
    have hz := hd rfl
    have ht := (help_g (df := df) (dcap := dcap) A hM hC hF hQ ho hV hz (hY' hz) hEa hw (hL.mv hm) ((hA.mv hm).less (by omega : n ≤ m))).then hM hj
    clear hA hT hj hm x0 x1 x2 x3 x4 x5 x6 l0 hQ hC hF hY' hw hL g0 g1 g2 hz hd
    show M.Then _ #[.bool true, ptr b, ptr b1, ptr b2, ptr b3, ptr b4, ptr b5, ptr b6] w' (fun v w'' => M.I r s w'' ∧ M.Code n (qN o) v w'')
    generalize hIx o = y at *
    unfold Gm.Then Ent at *
    go_enter Try.func79, Try.ntmps79
    go_wp2_with fail
    refine ht.mono ?_
    rintro e w2 ⟨v, rfl, hq, t2⟩
    go_wp2
    go_ret
    exact ⟨v, rfl, hq, t2⟩
end

end Go.Proofs.Ythkklcmmbpffiaa

/- The inbox's code over any machine: Put, whole. -/
namespace Go.Proofs.Ythkklcmmbpffiaa
open Go.RowKit
set_option maxRecDepth 100000

section
variable {St Pr : Type} {M : Gm St Pr} {p c : Nat} {m f fa b b1 b2 b3 b4 : Nat} {h fh t : Int} {lf df : FuncId} {lcap dcap cap acap : Array Value} {lk mk : Int → Int} {w : World} {qR : Pr} {qD qS qU qN qA : Int → Pr} {qT qB qC : Int → Int → Pr} {T : St → Pr × St} {V U Y V' U' Y' : Int → Prop} {E : St → Prop}

theorem put2_g (A : M.Ar p c) (hM : M.Ok) (hC : Gm.ChOk A h lk V U Y) (hF : Gm.ChOk A fh lk V' U' Y') (hQ : Gm.PutQ A h fh lk mk t qR qD qS qU qN qT qA qB qC E T) (hY : Y t) (hY' : ∀ o, V o → hIx o ≠ -1 → Y' (hIx o)) (hEa : Ent fa) (hE : Ent f) (hL : M.Lk w lf lcap lk) (hD : M.DeadOk w df dcap V qD qS qN)
    (x0 : M.Bx w b 62 (bxC p h fh lf df lcap dcap)) (x3 : M.Bx w b1 37 #[.func (.func fa) #[] acap]) (x4 : M.Bx w b2 93 (chC p h lf lcap)) (x5 : M.Bx w b3 3 #[.int .i64 t]) (x6 : M.Bx w b4 37 #[.func (.func f) #[] cap])
    (hA : M.Cont m fa acap w (fun (_ : Unit) _ => True) (fun _ => #[]) (fun _ s => (qR, s))) (hT : M.Cont m f cap w (fun (_ : Unit) s => E s) (fun _ => #[]) (fun _ => T)) :
    M.Cont m 77 #[ptr b, ptr b1, ptr b2, ptr b3, ptr b4] w (fun x _ => N64 x ∧ V x) (fun x => #[.int .u64 x, .int .i64 (hIx x)]) (fun x s => (if hIx x = -1 then qS x else qD x, s)) := by
  intro n hn x w' s r hm hj hx
  have hw := hM.okj hj
  have hmf := hmf_run
  obtain ⟨W2, hW2⟩ : ∃ W2, ((w'.alloc (.cells #[.int .u64 x] 75)).alloc (.cells #[.int .i64 (hIx x)] 3)) = W2 := ⟨_, rfl⟩
  have k2 : Turns [] w' W2 := by rw [← hW2]; exact ((Turns.refl _ _).alloc _).alloc _
  have l1 : Lies W2 w'.heap.size 75 #[.int .u64 x] := by rw [← hW2]; exact (Lies.new _ _ _).alloc _
  have l2 : Lies W2 (w'.heap.size + 1) 3 #[.int .i64 (hIx x)] := by rw [← hW2]; exact Lies.new_of _ _ (by simp)
  have hw2 := hw.made hM k2
  have hm2 := hm.trans (hw.mv hM k2)
  have y1 := hw.box hM k2 (Nat.le_refl _) l1 (by decide)
  have y2 := hw.box hM k2 (by omega) l2 (by decide)
  have hc : ∀ W, Turns [] W2 W → M.Cont m 79 #[ptr b, ptr w'.heap.size, ptr (w'.heap.size + 1), ptr b1, ptr b2, ptr b3, ptr b4] W (fun b _ => b = true → hIx x ≠ -1) (fun b => #[.bool b]) (fun b s => (if b = true then qN x else qS x, s)) := fun W hW => by
    have h3 := hw2.mv hM hW
    have h4 := hm2.trans h3
    exact put21_g (df := df) (dcap := dcap) A hM hC hF hQ hx.1 hx.2 hY (hY' x hx.2) hEa hE (hL.mv h4) (x0.mv h4) (y1.mv h3) (y2.mv h3) (x3.mv h4) (x4.mv h4) (x5.mv h4) (x6.mv h4) (hA.mv h4) (hT.mv h4)
  have hif : M.Then 78 #[bxV p h fh lf df lcap dcap, .int .i64 (hIx x), .func (.func 79) #[] #[ptr b, ptr w'.heap.size, ptr (w'.heap.size + 1), ptr b1, ptr b2, ptr b3, ptr b4]] W2 (fun v w'' => M.I r s w'' ∧ M.Code n (if hIx x = -1 then qS x else qD x) v w'') := by
    by_cases hz : hIx x = -1
    · rw [if_pos hz, hz]
      refine ifdead0_g hM ent_put21 hw2 (fun W hW => ?_)
      exact hc W hW n hn false W s r (Mv.refl _ _ _ _) (hM.jmade (k2.trans hW) hj) (fun e => absurd e (by simp))
    · rw [if_neg hz]
      have hmk : M.Makes n (qD x) 78 #[bxV p h fh lf df lcap dcap, .int .i64 (hIx x), .func (.func 79) #[] #[ptr b, ptr w'.heap.size, ptr (w'.heap.size + 1), ptr b1, ptr b2, ptr b3, ptr b4]] W2 :=
        ifdead1_g hD.1 hz (fun W hW => (hD.mv hm2).2 n x W _ _ (hw2.mv hM hW) (hw2.made hM hW) hx.1 hx.2 hz ent_put21 (fun n' hn' x' w'' s' r' h1 h2 _ => hc W hW n' (by omega) x' w'' s' r' h1 h2 (fun _ => hz)))
      exact hmk.then hM (hM.jmade k2 hj)
  have l0 := (x0.mv hm2).l
  obtain ⟨c0, c1, c2, c3, c4, c5, c6⟩ : W2.cell? ⟨b, 0, none⟩ = some (ptr p) ∧ W2.cell? ⟨b, 1, none⟩ = some (.int .i64 h) ∧ W2.cell? ⟨b, 2, none⟩ = some (.func (.func lf) #[] lcap) ∧ W2.cell? ⟨b, 3, none⟩ = some (.func (.func df) #[] dcap) ∧ W2.cell? ⟨b, 4, none⟩ = some (ptr p) ∧ W2.cell? ⟨b, 5, none⟩ = some (.int .i64 fh) ∧ W2.cell? ⟨b, 6, none⟩ = some (.func (.func lf) #[] lcap) := ⟨l0.cell 0, l0.cell 1, l0.cell 2, l0.cell 3, l0.cell 4, l0.cell 5, l0.cell 6⟩
  have d1 : W2.cell? ⟨w'.heap.size + 1, 0, none⟩ = some (.int .i64 (hIx x)) := l2.cell 0
  have fr := hw.fr hM k2
  clear hA hT hj hm x0 x3 x4 x5 x6 l0 l1 l2 y1 y2 hQ hC hF hY' hw hw2 hL hD hc hm2 hx
  show M.Then _ #[.int .u64 x, .int .i64 (hIx x), ptr b, ptr b1, ptr b2, ptr b3, ptr b4] w' (fun v w'' => M.I r s w'' ∧ M.Code n (if hIx x = -1 then qS x else qD x) v w'')
  generalize (if hIx x = -1 then qS x else qD x) = qq at *
  generalize hIx x = y at *
  unfold Gm.Then at *
  go_enter Try.func77, Try.ntmps77
  go_upto_region 1 with (fail)
  clear hW2
  go_wp2_with fail
  refine hif.mono ?_
  rintro e w2 ⟨v, rfl, hq, t2⟩
  go_wp2
  go_ret
  exact ⟨v, rfl, hq, fr.trans t2⟩
theorem put_g (A : M.Ar p c) (hM : M.Ok) (hC : Gm.ChOk A h lk V U Y) (hF : Gm.ChOk A fh lk V' U' Y') (hQ : Gm.PutQ A h fh lk mk t qR qD qS qU qN qT qA qB qC E T) (hY : Y t) (hY' : ∀ o, V o → hIx o ≠ -1 → Y' (hIx o)) : ∀ m (f : Nat) (cap : Array Value) (w : World), Ent f → M.OkW w → M.Lk w lf lcap lk → M.DeadOk w df dcap V qD qS qN → Room w p c h (lk t) → M.Cont m f cap w (fun (_ : Unit) s => E s) (fun _ => #[]) (fun _ => T) →
    M.Makes m qR 50 #[bxV p h fh lf df lcap dcap, .int .i64 t, .func (.func f) #[] cap] w := by
  intro m
  induction m using Nat.strongRecOn with
  | _ m ih =>
    intro f cap w hE hw hL hD hRm hT
    have hmf := hmf_run
    have y2 := fun (a : Addr) (f : FuncId) (c : Array Value) (w : World) => run_store Try.prog w a (.func (.func f) #[] c) .plain rfl
    obtain ⟨W2, hW2⟩ : ∃ W2, (((w.alloc (.cells (bxC p h fh lf df lcap dcap) 62)).alloc (.cells #[.int .i64 t] 3)).alloc (.cells #[.func (.func f) #[] cap] 37)) = W2 := ⟨_, rfl⟩
    have k2 : Turns [] w W2 := by rw [← hW2]; exact (((Turns.refl _ _).alloc _).alloc _).alloc _
    have l0 : Lies W2 w.heap.size 62 (bxC p h fh lf df lcap dcap) := by rw [← hW2]; exact ((Lies.new _ _ _).alloc _).alloc _
    have l1 : Lies W2 (w.heap.size + 1) 3 #[.int .i64 t] := by rw [← hW2]; exact (Lies.new_of _ _ (by simp)).alloc _
    have l2 : Lies W2 (w.heap.size + 1 + 1) 37 #[.func (.func f) #[] cap] := by rw [← hW2]; exact Lies.new_of _ _ (by simp)
    have hR : ∀ w3 W4 w5, Turns [] W2 w3 → w3.alloc (.cells (chC p h lf lcap) 93) = W4 → Turns [] W4 w5 → M.Makes m qR 62 #[chV p h lf lcap, .func (.func 77) #[] #[ptr w.heap.size, ptr w5.heap.size, ptr w3.heap.size, ptr (w.heap.size + 1), ptr (w.heap.size + 1 + 1)]] (w5.alloc (.cells #[.func (.func 76) #[] #[ptr w.heap.size, ptr (w.heap.size + 1), ptr (w.heap.size + 1 + 1)]] 37)) := fun w3 W4 w5 h3 e4 h5 => by
      obtain ⟨W6, hW6⟩ : ∃ W6, (w5.alloc (.cells #[.func (.func 76) #[] #[ptr w.heap.size, ptr (w.heap.size + 1), ptr (w.heap.size + 1 + 1)]] 37)) = W6 := ⟨_, rfl⟩
      have k34 : Turns [] w3 W4 := by rw [← e4]; exact (Turns.refl _ _).alloc _
      have k56 : Turns [] w5 W6 := by rw [← hW6]; exact (Turns.refl _ _).alloc _
      have l3 : Lies W4 w3.heap.size 93 (chC p h lf lcap) := by rw [← e4]; exact Lies.new _ _ _
      have l4 : Lies W6 w5.heap.size 37 #[.func (.func 76) #[] #[ptr w.heap.size, ptr (w.heap.size + 1), ptr (w.heap.size + 1 + 1)]] := by rw [← hW6]; exact Lies.new _ _ _
      have k46 : Turns [] W4 W6 := h5.trans k56
      have k26 : Turns [] W2 W6 := (h3.trans k34).trans k46
      have k6 := k2.trans k26
      have z3 := (k2.trans h3).size
      have z5 := ((k2.trans (h3.trans k34)).trans h5).size
      have hm6 := hw.mv hM k6
      have x0 := hw.box hM k6 (Nat.le_refl _) (l0.turn k26 (by simp)) (by decide)
      have x1 := hw.box hM k6 (by omega) (l1.turn k26 (by simp)) (by decide)
      have x2 := hw.box hM k6 (by omega) (l2.turn k26 (by simp)) (by decide)
      have x3 := hw.box hM k6 z3 (l3.turn k46 (by simp)) (by decide)
      have x4 := hw.box hM k6 z5 l4 (by decide)
      rw [hW6]
      have hA := put1_g (m := m) A hM hC hY x0 x1 x2 (fun n hn w' h1 h2 h4 => ih n hn f cap w' hE h2 ((hL.mv hm6).mv h1) ((hD.mv hm6).mv h1) h4 (((hT.mv hm6).mv h1).less (by omega)))
      exact read_g (V := fun x _ => V x) A hM (fun s hok _ => hC.hd _ hok) ent_put2 (hw.made hM k6) hQ.eR (put2_g A hM hC hF hQ hY hY' ent_put1 hE (hL.mv hm6) (hD.mv hm6) x0 x4 x3 x1 x2 hA (hT.mv hm6)) hQ.sR
    obtain ⟨l, k, ha, g1, g2⟩ := hRm
    have cH : ∀ W, Turns [] W2 W → _ := fun W hW => canhave_g hM ((hw.made hM k2).made hM hW) ((hL.mv (hw.mv hM k2)).mv ((hw.made hM k2).mv hM hW)) (ha.turn (k2.trans hW) (by simp) (by simp)) (hC.ix t hY) g1 g2
    obtain ⟨c0, c1, c2, c3, c4, c5, c6⟩ : W2.cell? ⟨w.heap.size, 0, none⟩ = some (ptr p) ∧ W2.cell? ⟨w.heap.size, 1, none⟩ = some (.int .i64 h) ∧ W2.cell? ⟨w.heap.size, 2, none⟩ = some (.func (.func lf) #[] lcap) ∧ W2.cell? ⟨w.heap.size, 3, none⟩ = some (.func (.func df) #[] dcap) ∧ W2.cell? ⟨w.heap.size, 4, none⟩ = some (ptr p) ∧ W2.cell? ⟨w.heap.size, 5, none⟩ = some (.int .i64 fh) ∧ W2.cell? ⟨w.heap.size, 6, none⟩ = some (.func (.func lf) #[] lcap) := ⟨l0.cell 0, l0.cell 1, l0.cell 2, l0.cell 3, l0.cell 4, l0.cell 5, l0.cell 6⟩
    have d0 : W2.cell? ⟨w.heap.size + 1, 0, none⟩ = some (.int .i64 t) := l1.cell 0
    have gl1 := l1.lt
    clear hT hL ih l0 l1 l2 hw hE hD ha
    unfold Gm.Makes at *
    go_enter Try.func50, Try.ntmps50
    go_upto_region 1 with (fail)
    clear hW2
    go_wp2_with fail
    refine (chainb_g p h fh lf df lcap dcap W2).mono ?_
    rintro e w3 ⟨rfl, t3⟩
    obtain ⟨W4, hW4⟩ : ∃ W4, w3.alloc (.cells (chC p h lf lcap) 93) = W4 := ⟨_, rfl⟩
    have k34 : Turns [] w3 W4 := by rw [← hW4]; exact (Turns.refl _ _).alloc _
    have l3 : Lies W4 w3.heap.size 93 (chC p h lf lcap) := by rw [← hW4]; exact Lies.new _ _ _
    have cH := cH W4 (t3.trans k34)
    have d1 : W4.cell? ⟨w.heap.size + 1, 0, none⟩ = some (.int .i64 t) := ((t3.trans k34).cell (p := ⟨w.heap.size + 1, 0, none⟩) gl1 (by simp)).trans d0
    obtain ⟨u0, u1, u2⟩ := ch_cells l3
    have gl3 := l3.lt
    have gl1' : w.heap.size + 1 < W4.heap.size := Nat.lt_of_lt_of_le gl1 (t3.trans k34).size
    have hR := fun w5 => hR w3 W4 w5 t3 hW4
    clear c0 c1 c2 c3 c4 c5 c6 d0
    go_upto_region 2 with (fail)
    clear hW4
    go_wp2_with fail
    refine cH.mono ?_
    rintro e w5 ⟨rfl, t5⟩
    have v0 := (t5.cell (p := ⟨w3.heap.size, 0, none⟩) gl3 (by simp)).trans u0
    have v1 := (t5.cell (p := ⟨w3.heap.size, 1, none⟩) gl3 (by simp)).trans u1
    have v2 := (t5.cell (p := ⟨w3.heap.size, 2, none⟩) gl3 (by simp)).trans u2
    have gl5 : w3.heap.size < w5.heap.size := Nat.lt_of_lt_of_le gl3 t5.size
    have hR := hR w5 t5
    have k5 : Turns [] w w5 := ((k2.trans t3).trans k34).trans t5
    clear u0 u1 u2 d1 cH
    go_wp2_with fail
    refine hR.mono ?_
    rintro e w6 ⟨v, rfl, hc6, t6⟩
    go_wp2
    go_ret
    exact ⟨v, rfl, hc6, (k5.alloc _).trans t6⟩
end

end Go.Proofs.Ythkklcmmbpffiaa

/- Tasks: New, Step, Finish. -/
namespace Go.Proofs.Ythkklcmmbpffiaa
open Go.RowKit

/-- a value that code has. -/
def IsCode (v : Value) : Prop := v = .nilFunc ∨ ∃ g cap, v = .func (.func g) #[] cap

theorem newtask_any (v : Value) (hv : IsCode v) (w : World) :
    Calls Try.prog 14 #[v] w fun e w' => e = .returned (.pointer (some ⟨w.heap.size, 0, none⟩)) ∧ w.alloc (.cells #[v, .int .i64 0] 89) = w' := by
  rcases hv with rfl | ⟨g, cap, rfl⟩
  all_goals
    go_enter Try.func14, Try.ntmps14
    go_wp2
    go_ret
    exact ⟨rfl, rfl⟩

section
variable {St Pr : Type} {M : Mc St Pr} {m : Nat} {q : Pr} {d t : Nat} {w : World}

theorem CodeAt.code {v : Value} (h : CodeAt M m q v w) : IsCode v := by
  rcases h.shape with ⟨_, h⟩ | ⟨_, h⟩
  · exact .inl h
  · exact .inr h

theorem TaskAt.made {v : Value} (h : CodeAt M m q v w) (hL : ∀ b, b ∈ M.LL → b < w.heap.size) (hB : M.B ≤ w.heap.size) : TaskAt M m q 0 w.heap.size (w.alloc (.cells #[v, .int .i64 0] 89)) := by
  refine ⟨⟨v, Lies.new _ _ _, h.moves (Moves.of_turns ((Turns.refl [] w).alloc _) (by simp))⟩, fun hm => ?_, hB⟩
  have := hL _ hm
  omega

theorem task_put {v : Value} {n : Int} {u : Value} {j : Nat} (h : Lies w t 89 #[v, .int .i64 n]) (L : List Nat) {B : Nat} (hB : B ≤ t) : Moves B L w (w.setCell ⟨t, j, none⟩ u) :=
  Moves.of_turns ((Turns.refl [t] w).setCell (.inl (by simp)) u) (fun b hb => by
    simp at hb
    subst hb
    exact .inr (.inr ⟨hB, _, _, task_loose, h⟩))

theorem step_any {r : Nat} {s : St} (hM : M.Ok) (h : TaskAt M (m + 1) q d t w) (hi : M.I (r + 1) s w) (hd : d < 4611686018427387904) :
    Calls Try.prog 43 #[.pointer (some ⟨t, 0, none⟩)] w fun e w' => e = .returned (.bool (M.ended (stepQ M q s))) ∧
      TaskAt M m (stepQ M q s) (stepD M q d) t w' ∧ M.I r (stepS M q s) w' ∧ Turns (t :: M.L) w w' ∧ Moves M.B M.LL w w' := by
  have c1 := ended_any h
  obtain ⟨v, h1, h2⟩ := h.at_
  rcases h2 with ⟨hq, rfl⟩ | ⟨hq, g, cap, rfl, hE, hs⟩
  · rw [hq] at c1
    have e1 : stepQ M q s = q := by simp [stepQ, hq]
    have e2 : stepD M q d = d := by simp [stepD, hq]
    have e3 : stepS M q s = s := by simp [stepS, hq]
    rw [e1, e2, e3, hq]
    clear e1 e2 e3
    have hh := Lib.hid (show TaskAt M m q d t w ∧ M.I r s w from ⟨h.less, hM.less _ _ _ hi⟩)
    clear h hi hq h1
    go_enter Try.func43, Try.ntmps43
    go_wp2_with fail
    refine c1.mono ?_
    rintro e w' ⟨rfl, rfl⟩
    go_wp2_with fail
    refine c1.mono ?_
    rintro e w' ⟨rfl, rfl⟩
    go_wp2
    go_ret
    exact ⟨rfl, hh.out.1, hh.out.2, Turns.refl _ _, Moves.refl _ _ _⟩
  · rw [hq] at c1
    have e1 : stepQ M q s = (M.step q s).1 := by simp [stepQ, hq]
    have e2 : stepD M q d = d + 1 := by simp [stepD, hq]
    have e3 : stepS M q s = (M.step q s).2 := by simp [stepS, hq]
    rw [e1, e2, e3]
    clear e1 e2 e3
    have c2 := hs w s r (Moves.refl _ _ _) hi
    have k0 := h1.cell 0
    have k1 := h1.cell 1
    simp at k0 k1
    have kl := h1.lt
    have HO := Lib.hid h.out
    have HB := Lib.hid h.base
    have HL : t ∉ M.L := fun hm => h.out (hM.sub _ hm)
    have HM := Lib.hid hM
    have H1 := Lib.hid h1
    clear hs hi h hM hq h1
    generalize (M.step q s).1 = q' at *
    generalize (M.step q s).2 = s' at *
    unfold Then Ent at *
    go_enter Try.func43, Try.ntmps43
    go_wp2_with fail
    refine c1.mono ?_
    rintro e w' ⟨rfl, rfl⟩
    go_wp2_with fail
    refine c2.mono ?_
    rintro e w1 ⟨v', rfl, ⟨hi1, hc1⟩, t1⟩
    have L1 := H1.out.turn t1 HL
    have d0 := L1.cell 0
    have d1 := L1.cell 1
    have f0 := L1.frozen 0
    have f1 := L1.frozen 1
    simp at d0 d1
    have M1 := Lib.hid (Moves.of_turns (B := M.B) (L := M.LL) t1 (fun b hb => .inl (HM.out.sub b hb)))
    have P1 := Lib.hid ((L1.set 0 v').set 1 (.int .i64 ((d + 1 : Nat) : Int)))
    have Q1 := Lib.hid (task_put (j := 0) (u := v') L1 M.LL HB.out)
    have Q2 := Lib.hid (task_put (j := 1) (u := .int .i64 ((d + 1 : Nat) : Int)) (v := v') (n := d) (by have := L1.set 0 v'; simpa using this) M.LL HB.out)
    have R1 := Lib.hid (task_put (j := 0) (u := v') L1 [] HB.out)
    have R2 := Lib.hid (task_put (j := 1) (u := .int .i64 ((d + 1 : Nat) : Int)) (v := v') (n := d) (by have := L1.set 0 v'; simpa using this) [] HB.out)
    have HT : TaskAt M m q' (d + 1) t ((w1.setCell ⟨t, 0, none⟩ v').setCell ⟨t, 1, none⟩ (.int .i64 ((d + 1 : Nat) : Int))) := ⟨⟨v', by have := P1.out; simpa using this, hc1.moves (Q1.out.trans Q2.out)⟩, HO.out, HB.out⟩
    have c3 := ended_any HT
    have HT := Lib.hid HT
    have HI := Lib.hid (HM.out.task _ _ _ _ (R1.out.trans R2.out) hi1)
    have HTT := Lib.hid (((t1.more (L' := t :: M.L) (fun b hb => .inl (by simp [hb]))).setCell (p := ⟨t, 0, none⟩) (.inl (by simp)) v').setCell (p := ⟨t, 1, none⟩) (.inl (by simp)) (.int .i64 ((d + 1 : Nat) : Int)))
    have HMM := Lib.hid ((M1.out.trans Q1.out).trans Q2.out)
    have HC := hc1.code
    rw [show (((d + 1 : Nat)) : Int) = (d : Int) + 1 by omega] at HT HI HTT HMM c3
    clear hc1 P1 Q1 Q2 R1 R2 M1 L1 hi1 H1 HM c1 c2
    have y1 := fun (a : Addr) (w : World) => run_store Try.prog w a .nilFunc .plain rfl
    have y2 := fun (a : Addr) (f : FuncId) (c : Array Value) (w : World) => run_store Try.prog w a (.func (.func f) #[] c) .plain rfl
    rcases HC with rfl | ⟨g', cap', rfl⟩
    all_goals
      go_wp2_with fail
      refine c3.mono ?_
      rintro e w' ⟨rfl, rfl⟩
      go_wp2
      go_ret
      exact ⟨rfl, HT.out, HI.out, HTT.out, HMM.out⟩
end

end Go.Proofs.Ythkklcmmbpffiaa

/- Tasks over any machine: New, Ended, Steps, Step, Finish. -/
namespace Go.Proofs.Ythkklcmmbpffiaa
open Go.RowKit

section
variable {St Pr : Type} (M : Gm St Pr)
/-- a task at block t, whose code does what q says; d steps were done. -/
structure Gm.Task (m : Nat) (q : Pr) (d : Nat) (t : Nat) (w : World) : Prop where
  at_ : ∃ v, Lies w t 89 #[v, .int .i64 d] ∧ M.Code m q v w
  out : t ∉ M.L
  base : M.B ≤ t
  row : ¬ Rw M.ws w t

variable {M}
theorem Gm.Task.less {m : Nat} {q : Pr} {d t : Nat} {w : World} (h : M.Task (m + 1) q d t w) : M.Task m q d t w := by
  obtain ⟨v, h1, h2⟩ := h.at_
  exact ⟨⟨v, h1, h2.less⟩, h.out, h.base, h.row⟩
theorem Gm.Task.down {m n : Nat} {q : Pr} {d t : Nat} {w : World} (h : M.Task (m + n) q d t w) : M.Task m q d t w := by
  induction n with
  | zero => exact h
  | succ n ih => exact ih h.less
theorem Gm.Task.to {m n : Nat} {q : Pr} {d t : Nat} {w : World} (h : M.Task n q d t w) (k : m ≤ n) : M.Task m q d t w := by
  rw [show n = m + (n - m) by omega] at h
  exact h.down
theorem Gm.Task.is {m : Nat} {q : Pr} {d t : Nat} {w : World} (h : M.Task m q d t w) : IsTask M.B w t := by
  obtain ⟨v, h1, _⟩ := h.at_
  exact ⟨h.base, _, _, task_loose, h1⟩
theorem Gm.Task.lt {m : Nat} {q : Pr} {d t : Nat} {w : World} (h : M.Task m q d t w) : t < w.heap.size := h.is.lt
theorem Gm.Task.keep {m : Nat} {q : Pr} {d t : Nat} {w w' : World} (h : M.Task m q d t w) (k : w'.heap[t]? = w.heap[t]?) (g : Mv M.B (M.L ++ M.X) M.ws w w') : M.Task m q d t w' := by
  obtain ⟨v, h1, h2⟩ := h.at_
  exact ⟨⟨v, k.trans h1, h2.mv g⟩, h.out, h.base, g.row h1.lt h.row⟩
theorem Gm.Task.made {m : Nat} {q : Pr} {v : Value} {w : World} (hM : M.Ok) (hw : M.OkW w) (h : M.Code m q v w) : M.Task m q 0 w.heap.size (w.alloc (.cells #[v, .int .i64 0] 89)) := by
  have k : Turns [] w (w.alloc (.cells #[v, .int .i64 0] 89)) := (Turns.refl _ _).alloc _
  refine ⟨⟨v, Lies.new _ _ _, h.mv (hw.mv hM k)⟩, fun hm => ?_, hw.base, fun q => ?_⟩
  · have := hw.lt _ hm
    omega
  · have := (hw.row _ (q.same fun x hx => k.cell (hw.cells hM x hx).1 (by simp))).2
    omega
theorem Gm.Code.is {m : Nat} {q : Pr} {v : Value} {w : World} (h : M.Code m q v w) : IsCode v := h.code

theorem ended_g {m : Nat} {q : Pr} {d t : Nat} {w : World} (h : M.Task m q d t w) :
    Calls Try.prog 25 #[ptr t] w fun e w' => e = .returned (.bool (M.ended q)) ∧ w' = w := by
  obtain ⟨v, h1, h2⟩ := h.at_
  have c0 := h1.cell 0
  simp at c0
  rcases h2.shape with ⟨hq, rfl⟩ | ⟨hq, g, cap, rfl⟩
  all_goals
    rw [hq]
    clear h h2 hq h1
    have e1 := eqn_nil
    have e2 := eqn_func
    go_enter Try.func25, Try.ntmps25
    go_wp2
    go_ret
    exact ⟨rfl, rfl⟩

theorem steps_g {m : Nat} {q : Pr} {d t : Nat} {w : World} (h : M.Task m q d t w) :
    Calls Try.prog 36 #[ptr t] w fun e w' => e = .returned (.int .i64 d) ∧ w' = w := by
  obtain ⟨v, h1, h2⟩ := h.at_
  have c0 := h1.cell 1
  simp at c0
  go_enter Try.func36, Try.ntmps36
  go_wp2
  go_ret
  exact ⟨rfl, rfl⟩

/-- behind a step, if there is one. -/
def Gm.sQ (M : Gm St Pr) (q : Pr) (s : St) : Pr := if M.ended q then q else (M.step q s).1
def Gm.sS (M : Gm St Pr) (q : Pr) (s : St) : St := if M.ended q then s else (M.step q s).2
def Gm.sD (M : Gm St Pr) (q : Pr) (d : Nat) : Nat := if M.ended q then d else d + 1

/-- a task's own writing. -/
theorem task_fr (hM : M.Ok) {w : World} (hw : M.OkW w) {t j : Nat} (ht : t ∉ M.L) (u : Value) : Fr (t :: M.L) M.ws w (w.setCell ⟨t, j, none⟩ u) :=
  Fr.of_turns ((Turns.refl [t] w).setCell (.inl (by simp)) u) (fun b hb => .inl (by simp at hb; simp [hb])) fun x hx => ⟨hw.lt _ (hM.cells x hx), by
    simp
    rintro rfl
    exact ht (hM.cells x hx)⟩
theorem task_mv (hM : M.Ok) {w : World} (hw : M.OkW w) {v : Value} {n : Int} {t j : Nat} (h : Lies w t 89 #[v, .int .i64 n]) (ht : t ∉ M.L) (hB : M.B ≤ t) (u : Value) : Mv M.B (M.L ++ M.X) M.ws w (w.setCell ⟨t, j, none⟩ u) :=
  Mv.of_turns ((Turns.refl [t] w).setCell (.inl (by simp)) u) (fun b hb => .inr (.inr (by
    simp at hb
    subst hb
    exact ⟨hB, _, _, task_loose, h⟩))) fun x hx => ⟨hw.lt _ (hM.cells x hx), by
    simp
    rintro rfl
    exact ht (hM.cells x hx)⟩
theorem task_i (hM : M.Ok) {w : World} {v : Value} {n : Int} {t j r : Nat} {s : St} (h : Lies w t 89 #[v, .int .i64 n]) (hB : M.B ≤ t) (u : Value) (hi : M.I r s w) : M.I r s (w.setCell ⟨t, j, none⟩ u) :=
  hM.task _ _ _ _ (Mv.of_turns ((Turns.refl [t] w).setCell (.inl (by simp)) u) (fun b hb => .inr (.inr (by
    simp at hb
    subst hb
    exact ⟨hB, _, _, task_loose, h⟩))) fun x hx => by cases hx) hi

variable {m d t : Nat} {q : Pr} {w : World}
set_option maxRecDepth 100000 in
theorem step_g {r : Nat} {s : St} (hM : M.Ok) (h : M.Task (m + 1) q d t w) (hi : M.I (r + 1) s w) (hW : M.ended q = false → M.W q s) (hd : d < 4611686018427387904) :
    Calls Try.prog 43 #[ptr t] w fun e w' => e = .returned (.bool (M.ended (M.sQ q s))) ∧
      M.Task m (M.sQ q s) (M.sD q d) t w' ∧ M.I r (M.sS q s) w' ∧ Fr (t :: M.L) M.ws w w' ∧ Mv M.B (M.L ++ M.X) M.ws w w' := by
  have c1 := ended_g h
  obtain ⟨v, h1, h2⟩ := h.at_
  rcases h2 with ⟨hq, rfl⟩ | ⟨hq, g, cap, rfl, hE, hs⟩
  · rw [hq] at c1
    have e1 : M.sQ q s = q := by simp [Gm.sQ, hq]
    have e2 : M.sD q d = d := by simp [Gm.sD, hq]
    have e3 : M.sS q s = s := by simp [Gm.sS, hq]
    rw [e1, e2, e3, hq]
    clear e1 e2 e3
    have hh := Lib.hid (show M.Task m q d t w ∧ M.I r s w from ⟨h.less, hM.less _ _ _ hi⟩)
    clear h hi hq h1 hW
    go_enter Try.func43, Try.ntmps43
    go_wp2_with fail
    refine c1.mono ?_
    rintro e w' ⟨rfl, rfl⟩
    go_wp2_with fail
    refine c1.mono ?_
    rintro e w' ⟨rfl, rfl⟩
    go_wp2
    go_ret
    exact ⟨rfl, hh.out.1, hh.out.2, Fr.refl _ _ _, Mv.refl _ _ _ _⟩
  · rw [hq] at c1
    have e1 : M.sQ q s = (M.step q s).1 := by simp [Gm.sQ, hq]
    have e2 : M.sD q d = d + 1 := by simp [Gm.sD, hq]
    have e3 : M.sS q s = (M.step q s).2 := by simp [Gm.sS, hq]
    rw [e1, e2, e3]
    clear e1 e2 e3
    have c2 := hs w s r (Mv.refl _ _ _ _) hi (hW hq)
    have k0 := h1.cell 0
    have k1 := h1.cell 1
    simp at k0 k1
    have kl := h1.lt
    have HO := Lib.hid h.out
    have HB := Lib.hid h.base
    have HR := Lib.hid h.row
    have HM := Lib.hid hM
    have H1 := Lib.hid h1
    clear hs hi h hM hq h1 hW
    generalize (M.step q s).1 = q' at *
    generalize (M.step q s).2 = s' at *
    unfold Gm.Then Ent at *
    go_enter Try.func43, Try.ntmps43
    go_wp2_with fail
    refine c1.mono ?_
    rintro e w' ⟨rfl, rfl⟩
    go_wp2_with fail
    refine c2.mono ?_
    rintro e w1 ⟨v', rfl, ⟨hi1, hc1⟩, t1⟩
    have L1 := t1.lies H1.out HO.out HR.out
    have d0 := L1.cell 0
    have d1 := L1.cell 1
    have f0 := L1.frozen 0
    have f1 := L1.frozen 1
    simp at d0 d1
    have okw1 := HM.out.okw _ _ _ hi1
    have LA : Lies (w1.setCell ⟨t, 0, none⟩ v') t 89 #[v', .int .i64 d] := by have := L1.set 0 v'; simpa using this
    have LB : Lies ((w1.setCell ⟨t, 0, none⟩ v').setCell ⟨t, 1, none⟩ (.int .i64 ((d + 1 : Nat) : Int))) t 89 #[v', .int .i64 ((d + 1 : Nat) : Int)] := by have := LA.set 1 (.int .i64 ((d + 1 : Nat) : Int)); simpa using this
    have iA := task_i (j := 0) HM.out L1 HB.out v' hi1
    have okw2 := HM.out.okw _ _ _ iA
    have mA := task_mv (j := 0) HM.out okw1 L1 HO.out HB.out v'
    have mB := task_mv (j := 1) HM.out okw2 LA HO.out HB.out (.int .i64 ((d + 1 : Nat) : Int))
    have fA := task_fr (j := 0) HM.out okw1 HO.out v'
    have fB := task_fr (j := 1) HM.out okw2 HO.out (.int .i64 ((d + 1 : Nat) : Int))
    have HT : M.Task m q' (d + 1) t ((w1.setCell ⟨t, 0, none⟩ v').setCell ⟨t, 1, none⟩ (.int .i64 ((d + 1 : Nat) : Int))) := ⟨⟨v', LB, hc1.mv (mA.trans mB)⟩, HO.out, HB.out, (mA.trans mB).row L1.lt (t1.row H1.out.lt HR.out)⟩
    have c3 := ended_g HT
    have HT := Lib.hid HT
    have HI := Lib.hid (task_i (j := 1) HM.out LA HB.out (.int .i64 ((d + 1 : Nat) : Int)) iA)
    have HTT := Lib.hid (((t1.more (L' := t :: M.L) (fun b hb => by simp [hb])).trans fA).trans fB)
    have HMM := Lib.hid ((t1.mv (B := M.B)).trans (mA.trans mB))
    have HC := hc1.code
    rw [show (((d + 1 : Nat)) : Int) = (d : Int) + 1 by omega] at HT HI HTT HMM c3
    clear hc1 LA LB iA mA mB fA fB okw1 okw2 L1 hi1 H1 HM c1 c2 t1
    have y1 := fun (a : Addr) (w : World) => run_store Try.prog w a .nilFunc .plain rfl
    have y2 := fun (a : Addr) (f : FuncId) (c : Array Value) (w : World) => run_store Try.prog w a (.func (.func f) #[] c) .plain rfl
    rcases HC with rfl | ⟨g', cap', rfl⟩
    all_goals
      go_wp2_with fail
      refine c3.mono ?_
      rintro e w' ⟨rfl, rfl⟩
      go_wp2
      go_ret
      exact ⟨rfl, HT.out, HI.out, HTT.out, HMM.out⟩

/-- behind so many steps, as long as there are any. -/
def Gm.runN (M : Gm St Pr) (q : Pr) (s : St) (d : Nat) : Nat → Pr × St × Nat
  | 0 => (q, s, d)
  | j + 1 => (M.sQ (M.runN q s d j).1 (M.runN q s d j).2.1, M.sS (M.runN q s d j).1 (M.runN q s d j).2.1, M.sD (M.runN q s d j).1 (M.runN q s d j).2.2)
theorem runN_end {q : Pr} {s : St} {d j : Nat} (h : M.ended (M.runN q s d j).1 = true) : ∀ i, M.runN q s d (j + i) = M.runN q s d j
  | 0 => rfl
  | i + 1 => by
    show (M.sQ (M.runN q s d (j + i)).1 (M.runN q s d (j + i)).2.1, M.sS (M.runN q s d (j + i)).1 (M.runN q s d (j + i)).2.1, M.sD (M.runN q s d (j + i)).1 (M.runN q s d (j + i)).2.2) = _
    rw [runN_end h i]
    simp [Gm.sQ, Gm.sS, Gm.sD, h]
theorem runN_dd {q : Pr} {s : St} {d : Nat} : ∀ j, (M.runN q s d j).2.2 ≤ d + j
  | 0 => Nat.le_refl _
  | j + 1 => by
    have := runN_dd (q := q) (s := s) (d := d) j
    show M.sD _ _ ≤ _
    unfold Gm.sD
    split <;> omega

/-- a task that is under way: j steps were done since. -/
structure Gm.Und (M : Gm St Pr) (m : Nat) (q : Pr) (s : St) (d t : Nat) (w : World) (j : Nat) (W : World) : Prop where
  tk : M.Task (m - j) (M.runN q s d j).1 (M.runN q s d j).2.2 t W
  inv : M.I (m - j) (M.runN q s d j).2.1 W
  fr : Fr (t :: M.L) M.ws w W
  mo : Mv M.B (M.L ++ M.X) M.ws w W
theorem Gm.Und.next {m : Nat} {q : Pr} {s : St} {d t j : Nat} {w W : World} (hM : M.Ok) (h : M.Und m q s d t w j W) (hj : j < m) (hW : M.ended (M.runN q s d j).1 = false → M.W (M.runN q s d j).1 (M.runN q s d j).2.1) (hd : d + m < 4611686018427387904) :
    Calls Try.prog 43 #[ptr t] W fun e w' => e = .returned (.bool (M.ended (M.runN q s d (j + 1)).1)) ∧ M.Und m q s d t w (j + 1) w' := by
  have h1 := h.tk
  have h2 := h.inv
  rw [show m - j = (m - (j + 1)) + 1 by omega] at h1 h2
  have := runN_dd (M := M) (q := q) (s := s) (d := d) j
  refine (step_g hM h1 h2 hW (by omega)).mono ?_
  rintro e w' ⟨he, a1, a2, a3, a4⟩
  exact ⟨he, a1, a2, h.fr.trans a3, h.mo.trans a4⟩

set_option maxRecDepth 100000 in
theorem finish_g {m : Nat} {q : Pr} {s : St} {d t : Nat} {w : World} (hM : M.Ok) (most : Nat) (hmost : most ≤ m) (h : M.Task m q d t w) (hi : M.I m s w) (hW : ∀ j, j < most → M.ended (M.runN q s d j).1 = false → M.W (M.runN q s d j).1 (M.runN q s d j).2.1) (hd : d + m < 4611686018427387904) :
    Calls Try.prog 18 #[ptr t, .int .i64 most] w fun e w' => e = .returned (.bool (M.ended (M.runN q s d most).1)) ∧
      M.Task (m - most) (M.runN q s d most).1 (M.runN q s d most).2.2 t w' ∧ M.I (m - most) (M.runN q s d most).2.1 w' ∧ Fr (t :: M.L) M.ws w w' ∧ Mv M.B (M.L ++ M.X) M.ws w w' := by
  have h0 : M.Und m q s d t w 0 w := ⟨h, hi, Fr.refl _ _ _, Mv.refl _ _ _ _⟩
  have downI : ∀ k n (W : World) s', M.I (n + k) s' W → M.I n s' W := fun k => by
    induction k with
    | zero => exact fun n W s' h => h
    | succ k ih => exact fun n W s' h => ih n W s' (hM.less _ _ _ h)
  clear h hi
  go_enter Try.func18, Try.ntmps18
  go_wp2_with fail
  go_loopw [6] (fun i wr => ∃ j : Nat, i = .int .i64 j ∧ j ≤ most ∧ M.Und m q s d t w j wr) (fun i _ => (most - intOf i).toNat)
  case atStart => exact ⟨0, rfl, by omega, h0⟩
  case round =>
    clear h0
    obtain ⟨j, rfl, hj, hU⟩ := hrel
    by_cases hlt : j < most
    · have c1 := hU.next hM (by omega) (hW j hlt) hd
      cases hb : M.ended (M.runN q s d (j + 1)).1 with
      | true =>
        rw [hb] at c1
        have e1 : M.runN q s d most = M.runN q s d (j + 1) := by
          have := runN_end hb (most - (j + 1))
          rwa [show j + 1 + (most - (j + 1)) = most by omega] at this
        have E1 := Lib.hid e1
        have HB := Lib.hid hb
        clear hU e1 hb
        go_wp2_with fail
        refine c1.mono ?_
        rintro e w1 ⟨rfl, hU⟩
        have c2 := ended_g hU.tk
        rw [HB.out] at c2
        have HU := Lib.hid (And.intro (hU.tk.to (m := m - most) (by omega)) (And.intro (downI (most - (j + 1)) (m - most) _ _ (by rw [show m - most + (most - (j + 1)) = m - (j + 1) by omega]; exact hU.inv)) (And.intro hU.fr hU.mo)))
        clear hU c1
        go_wp2_with fail
        refine c2.mono ?_
        rintro e w1 ⟨rfl, rfl⟩
        go_wp2
        go_ret
        rw [E1.out]
        exact ⟨ret_bool HB.out.symm, HU.out⟩
      | false =>
        rw [hb] at c1
        clear hU hb
        go_wp2_with fail
        refine c1.mono ?_
        rintro e w1 ⟨rfl, hU⟩
        go_wp2
        go_roundw
        case rel => exact ⟨j + 1, by go_num, by omega, hU⟩
        case measure => simp [intOf]; omega
    · obtain rfl : j = most := by omega
      have c2 := ended_g hU.tk
      have HU := Lib.hid (And.intro hU.tk (And.intro hU.inv (And.intro hU.fr hU.mo)))
      obtain ⟨bb, hbb⟩ : ∃ bb, M.ended (M.runN q s d j).1 = bb := ⟨_, rfl⟩
      rw [hbb] at c2
      have HB := Lib.hid hbb
      clear hU hbb
      go_wp2_with fail
      refine c2.mono ?_
      rintro e w1 ⟨rfl, rfl⟩
      go_wp2
      go_ret
      exact ⟨ret_bool HB.out.symm, HU.out⟩
end

end Go.Proofs.Ythkklcmmbpffiaa
