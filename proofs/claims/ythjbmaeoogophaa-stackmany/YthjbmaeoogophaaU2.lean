/- Heads and links as numbers; the chain's functions that make no code. -/
import Derived.Test.YthjbmaeoogophaaU1
import Derived.Deep.RegionHeld3
import Derived.LoopN
import Derived.Deep.Slices
import Derived.Test.YthjbmaeoogophaaRows
import Derived.OwnWalk
import Derived.Laws.OwnMore
import Derived.WalkKit
import Derived.Deep.AppendLies
import Derived.WalkSmall
namespace Go.Proofs.Ythjbmaeoogophaa
open Go.RowKit

/-- a head's place and count; what a link tells; the head behind a turn. -/
def hIx (v : Int) : Int := v % 4294967296 - 1
def hCt (v : Int) : Int := v / 4294967296
def nxOf (v : Int) : Int := if 4294967295 < v then -1 else v - 1
def newH (v i : Int) : Int := ((hCt v + 1) % 4294967296) * 4294967296 + (i + 1)
/-- a number that a head can name, or none; that it can name. -/
def Ix0 (i : Int) : Prop := -1 ≤ i ∧ i ≤ 4294967294
def Ix (i : Int) : Prop := 0 ≤ i ∧ i ≤ 4294967294
theorem hIx_in {v : Int} : Ix0 (hIx v) := by unfold Ix0 hIx; omega
theorem hIx_ix {v : Int} (h : hIx v ≠ -1) : Ix (hIx v) := by have := hIx_in (v := v); unfold Ix0 at this; unfold Ix; omega
theorem hCt_in {v : Int} (h : N64 v) : 0 ≤ hCt v ∧ hCt v < 4294967296 := by unfold N64 at h; unfold hCt; omega
theorem nxOf_in {v : Int} (h : N64 v) : Ix0 (nxOf v) := by unfold N64 at h; unfold Ix0 nxOf; split <;> omega
theorem Ix.zero {i : Int} (h : Ix i) : Ix0 i := by unfold Ix at h; unfold Ix0; omega
theorem newH_in {v i : Int} (hi : Ix0 i) : N64 (newH v i) := by unfold Ix0 at hi; unfold N64 newH; omega
theorem N64.u {v : Int} (h : N64 v) : U64 v := h

theorem headof_g (v : Int) (hv : N64 v) (w : World) :
    Calls Try.prog 71 #[.int .u64 v] w fun e w' => e = .returned (.agg #[.int .i64 (hCt v), .int .i64 (hIx v)]) ∧ Turns [] w w' := by
  have h := hv
  unfold N64 at h
  have e1 : getW v 32 32 = hCt v := by
    have p : partB 32 32 = true := by decide
    unfold getW hCt
    rw [if_pos p, show pw 32 = 4294967296 from by decide]
    omega
  have e2 : getW v 0 32 - 1 = hIx v := by
    have p : partB 0 32 = true := by decide
    unfold getW hIx
    rw [if_pos p, show pw 32 = 4294967296 from by decide, show pw 0 = 1 from by decide]
    omega
  refine (head_of v w hv.u).mono ?_
  rintro e w' ⟨rfl, hb⟩
  rw [e1, e2]
  exact ⟨rfl, Turns.of_below hb (Nat.le_refl _)⟩

theorem hword_g (ct i : Int) (hc : 0 ≤ ct ∧ ct < 4294967296) (hi : Ix0 i) (w : World) :
    Calls Try.prog 102 #[.agg #[.int .i64 ct, .int .i64 i]] w fun e w' => e = .returned (.tuple #[.int .u64 (ct * 4294967296 + (i + 1)), .int .i64 0]) ∧ Turns [] w w' := by
  unfold Ix0 at hi
  have ew : wrap64 (i + 1) = i + 1 := by unfold wrap64; omega
  have p32 : pw 32 = 4294967296 := by decide
  have ok : okTo [ct, i + 1, 0, 0] headWs headWs.length := by
    intro j hj
    simp only [headWs, List.length_cons, List.length_nil] at hj
    rcases (by omega : j = 0 ∨ j = 1) with rfl | rfl
    · simp [headWs, p32]; omega
    · simp [headWs, p32]; omega
  refine (head_word ct i w ⟨by omega, by omega⟩).mono ?_
  rintro e w' ⟨rfl, hb⟩
  rw [ew, packW_ok ok, packE_ok ok]
  have e1 : packTo [ct, i + 1, 0, 0] headWs headWs.length = ct * 4294967296 + (i + 1) := by
    simp [headWs, packTo, p32]
  rw [e1]
  exact ⟨rfl, Turns.of_below hb (Nat.le_refl _)⟩

/-- what a cell tells that links a thing: none, if it is 0, or too great. -/
def lkd (v : Int) : Int := if 9223372036854775808 < v then -1 else v - 1
theorem lkd_in {v : Int} (h : N64 v) : -1 ≤ lkd v ∧ lkd v ≤ 9223372036854775807 := by unfold N64 at h; unfold lkd; split <;> omega
theorem lkd_nx {v : Int} (h : v ≤ 4294967295) : lkd v = nxOf v := by unfold lkd nxOf; rw [if_neg (by omega), if_neg (by omega)]

theorem linked_g (v : Int) (hv : N64 v) (w : World) :
    Calls Try.prog 99 #[.int .u64 v] w fun e w' => e = .returned (.int .i64 (lkd v)) ∧ w' = w := by
  unfold N64 at hv
  by_cases h0 : v = 0
  · subst h0
    have e : lkd 0 = -1 := by decide
    rw [e]
    go_enter Try.func99, Try.ntmps99
    go_wp2
    go_ret
    exact ⟨rfl, rfl⟩
  · have e1 : IntKind.u64.wrap (v - 1) = v - 1 := by rw [IntKind.wrap_u64]; omega
    by_cases h : 9223372036854775808 < v
    · have e : lkd v = -1 := if_pos h
      rw [e]
      go_enter Try.func99, Try.ntmps99
      go_wp2
      go_ret
      exact ⟨rfl, rfl⟩
    · have e : lkd v = v - 1 := if_neg h
      rw [e]
      have e2 : IntKind.i64.wrap (v - 1) = v - 1 := by rw [IntKind.wrap_i64]; omega
      go_enter Try.func99, Try.ntmps99
      go_wp2
      go_ret
      exact ⟨ret_int (by first | rfl | exact e2 | (try rw [e2]; go_num)), rfl⟩

/-- can a head name it? -/
def cnB (i : Int) : Bool := decide (i ≤ 4294967294)
theorem canname_g (i : Int) (hi : -1 ≤ i ∧ i ≤ 9223372036854775807) (w : World) :
    Calls Try.prog 94 #[.int .i64 i] w fun e w' => e = .returned (.bool (cnB i)) ∧ Turns [] w w' := by
  have p32 : pw 32 = 4294967296 := by decide
  have hw := fun W => head_word 0 i W ⟨by omega, by omega⟩
  have hE : packE [0, wrap64 (i + 1), 0, 0] headWs = if i ≤ 4294967294 then 0 else 2 := by
    by_cases h : i ≤ 4294967294
    · rw [if_pos h]
      have ew : wrap64 (i + 1) = i + 1 := by unfold wrap64; omega
      rw [ew]
      refine packE_ok ?_
      intro j hj
      simp only [headWs, List.length_cons, List.length_nil] at hj
      rcases (by omega : j = 0 ∨ j = 1) with rfl | rfl
      · simp [headWs, p32]
      · simp [headWs, p32]; omega
    · rw [if_neg h]
      refine packE_no fun ho => ?_
      have := ho 1 (by decide)
      simp [headWs, p32] at this
      unfold wrap64 at this
      omega
  rw [hE] at hw
  generalize packW [0, wrap64 (i + 1), 0, 0] headWs = x at *
  by_cases h : i ≤ 4294967294
  · have e : cnB i = true := by simp [cnB, h]
    rw [e]
    rw [if_pos h] at hw
    clear h hE
    go_enter Try.func94, Try.ntmps94
    go_wp2_with fail
    refine (hw _).mono ?_
    rintro e w' ⟨rfl, hb⟩
    go_wp2
    go_ret
    exact ⟨rfl, Turns.of_below hb (Nat.le_refl _)⟩
  · have e : cnB i = false := by simp [cnB, h]
    rw [e]
    rw [if_neg h] at hw
    clear h hE
    go_enter Try.func94, Try.ntmps94
    go_wp2_with fail
    refine (hw _).mono ?_
    rintro e w' ⟨rfl, hb⟩
    go_wp2
    go_ret
    exact ⟨rfl, Turns.of_below hb (Nat.le_refl _)⟩

theorem linkto_g (v : Int) (hv : Ix0 v) (w : World) :
    Calls Try.prog 97 #[.int .i64 v] w fun e w' => e = .returned (.int .u64 (v + 1)) ∧ w' = w := by
  unfold Ix0 at hv
  go_enter Try.func97, Try.ntmps97
  go_wp2
  go_ret
  first | exact ⟨rfl, rfl⟩ | exact ⟨ret_int (by go_num), rfl⟩

theorem field_head0 (a b : Int) (W : World) : (Instr.field 121 (.agg #[.int .i64 a, .int .i64 b]) 0).run Try.prog W = .ok (.int .i64 a) W := by kernel_rfl
theorem field_head1 (a b : Int) (W : World) : (Instr.field 121 (.agg #[.int .i64 a, .int .i64 b]) 1).run Try.prog W = .ok (.int .i64 b) W := by kernel_rfl

/-- a chain's value; its cells. -/
abbrev chV (p : Nat) (h : Int) (lf : FuncId) (lcap : Array Value) : Value := .agg #[ptr p, .int .i64 h, .func (.func lf) #[] lcap]
abbrev chC (p : Nat) (h : Int) (lf : FuncId) (lcap : Array Value) : Array Value := #[ptr p, .int .i64 h, .func (.func lf) #[] lcap]

/-- the cells of a chain that lies in memory. -/
theorem ch_cells {w : World} {b p : Nat} {h : Int} {lf : FuncId} {lcap : Array Value} (l : Lies w b 93 (chC p h lf lcap)) : w.cell? ⟨b, 0, none⟩ = some (ptr p) ∧ w.cell? ⟨b, 1, none⟩ = some (.int .i64 h) ∧ w.cell? ⟨b, 2, none⟩ = some (.func (.func lf) #[] lcap) := ⟨l.cell 0, l.cell 1, l.cell 2⟩

/-- are these all cells? -/
theorem arecells_g {p c : Nat} {l : List Int} {k : Int} {w : World} (A : Option Addr) (xs : List Int) (n cp : Nat) (ha : Arena w p c l k) (hr : Row w .i64 A n xs) :
    Calls Try.prog 95 #[ptr p, .slice A n cp] w fun e w' => e = .returned (.bool (xs.all (hasA l))) ∧ w' = w := by
  have hmx := hr.most
  have hn := hr.len
  unfold maxLen at hmx
  obtain ⟨bb, hbb⟩ : ∃ bb, xs.all (hasA l) = bb := ⟨_, rfl⟩
  rw [hbb]
  have HB := Lib.hid hbb
  clear hbb
  go_enter Try.func95, Try.ntmps95
  go_wp2_with fail
  go_loopw [6, 9] (fun _ j wr => ∃ m : Nat, j = .int .i64 (m : Int) ∧ m ≤ n ∧ wr = w ∧ ∀ i, i < m → hasA l (xs.getD i 0) = true) (fun _ j _ => n - (intOf j).toNat)
  case atStart => exact ⟨0, rfl, by omega, rfl, by omega⟩
  case round =>
    obtain ⟨m, rfl, hm, rfl, hall⟩ := hrel
    by_cases hlt : m < n
    · obtain ⟨a, rfl, _, hcell⟩ := hr.at_ (by omega)
      have hcx := hcell m hlt
      obtain ⟨x, hx⟩ : ∃ x, xs.getD m 0 = x := ⟨_, rfl⟩
      rw [hx] at hcx
      have hmem : x ∈ xs := by rw [← hx]; simp [List.getD, show m < xs.length by omega]
      have hno : hasA l x = false → bb = false := fun h => by
        rw [← HB.out]
        simp only [List.all_eq_false]
        exact ⟨x, hmem, by simp [h]⟩
      have hnext : hasA l x = true → ∀ i, i < m + 1 → hasA l (xs.getD i 0) = true := fun h i hi => by
        rcases Nat.lt_or_ge i m with h1 | h1
        · exact hall i h1
        · obtain rfl : i = m := by omega
          rw [hx]; exact h
      have HN := Lib.hid hno
      have HX := Lib.hid hnext
      clear hno hnext hall hcell hx hmem hr
      by_cases h0 : x < 0
      · have HF := Lib.hid (HN.out (by unfold hasA; simp; omega))
        go_wp2_with fail
        go_ret
        exact ⟨ret_bool HF.out.symm, rfl⟩
      · by_cases h1 : (l.length : Int) ≤ x
        · have HF := Lib.hid (HN.out (by unfold hasA; simp; omega))
          go_wp2_with fail
          refine (len_any ha).mono ?_
          rintro e w' ⟨rfl, rfl⟩
          go_wp2
          go_ret
          exact ⟨ret_bool HF.out.symm, rfl⟩
        · have HT := Lib.hid (HX.out (by rw [hasA_iff]; omega))
          go_wp2_with fail
          refine (len_any ha).mono ?_
          rintro e w' ⟨rfl, rfl⟩
          go_wp2
          go_roundw
          case rel => exact ⟨m + 1, by go_num, by omega, by trivial, HT.out⟩
          case measure => simp [intOf]; omega
    · obtain rfl : m = n := by omega
      have HF : Hid (bb = true) := Lib.hid (by
        rw [← HB.out, List.all_eq_true]
        intro y hy
        obtain ⟨i, hi, rfl⟩ := List.mem_iff_getElem.1 hy
        have := hall i (by omega)
        simpa [List.getD, hi] using this)
      clear hall
      go_wp2_with fail
      go_ret
      exact ⟨ret_bool HF.out.symm, rfl⟩

/-- two numbers in a block of their own. -/
theorem Row.two (w : World) (a b : Int) (ha : (Lit.int .i64 a).wf = true) (hb : (Lit.int .i64 b).wf = true) : Row (w.alloc (.cells #[.int .i64 a, .int .i64 b] 3)) .i64 (some ⟨w.heap.size, 0, none⟩) 2 [a, b] :=
  ⟨rfl, by simp [maxLen], by intro x hx; simp at hx; rcases hx with rfl | rfl <;> assumption, fun _ => ⟨_, rfl, by simp, fun i hi => by
    rw [Addr.add_mid, Nat.zero_add, (Lies.new w 3 #[.int .i64 a, .int .i64 b]).cell i]
    rcases (by omega : i = 0 ∨ i = 1) with rfl | rfl <;> rfl⟩⟩

end Go.Proofs.Ythjbmaeoogophaa

/- The chain's code: Read, Next, Turn. -/
namespace Go.Proofs.Ythjbmaeoogophaa
open Go.RowKit
set_option maxRecDepth 100000

theorem ent_read1 : Ent 92 := ent_of Try.func92 (by kernel_rfl) (by kernel_rfl)
theorem ent_next1 : Ent 104 := ent_of Try.func104 (by kernel_rfl) (by kernel_rfl)
theorem ent_take1 : Ent 93 := ent_of Try.func93 (by kernel_rfl) (by kernel_rfl)
theorem ent_lay1 : Ent 98 := ent_of Try.func98 (by kernel_rfl) (by kernel_rfl)
theorem hmf_run : ∀ (fn : Fn) (first cap : Array Value) (w : World), (Instr.makeFunc fn first cap).run Try.prog w = .ok (.func fn first cap) w := fun _ _ _ _ => rfl

section
variable {St Pr : Type} {M : Gm St Pr} {p c : Nat}

/-- the link function of a chain. -/
structure Gm.Lk (M : Gm St Pr) (w : World) (lf : FuncId) (lcap : Array Value) (lk : Int → Int) : Prop where
  ent : Ent lf
  run : ∀ w' i, Mv M.B (M.L ++ M.X) M.ws w w' → Ix i → Calls Try.prog lf (#[.int .i64 i] ++ lcap) w' fun e w'' => e = .returned (.int .i64 (lk i)) ∧ Turns [] w' w''
theorem Gm.Lk.mv {w w1 : World} {lf : FuncId} {lcap : Array Value} {lk : Int → Int} (h : M.Lk w lf lcap lk) (k : Mv M.B (M.L ++ M.X) M.ws w w1) : M.Lk w1 lf lcap lk := ⟨h.ent, fun w' i hw hi => h.run w' i (k.trans hw) hi⟩

theorem Gm.OkW.mvd {w w' : World} {s : St} {r : Nat} (hM : M.Ok) (_ : M.OkW w) (h : M.I r s w') : M.OkW w' := hM.okw _ _ _ h

variable {q : Pr} {m f b : Nat} {h : Int} {lf : FuncId} {lcap cap : Array Value} {lk : Int → Int} {w : World}

theorem read1_g (hM : M.Ok) {V : Int → St → Prop} {T : Int → St → Pr × St} (hE : Ent f) (x0 : M.Bx w b 117 #[.func (.func f) #[] cap]) (hT : M.Cont m f cap w (fun x s => N64 x ∧ V x s) (fun x => #[.int .u64 x, .int .i64 (hIx x)]) T) :
    M.Cont m 92 #[ptr b] w (fun x s => N64 x ∧ V x s) (fun x => #[.int .u64 x]) T := by
  intro n hn x w' s r hm hi hx
  have x0 := x0.mv hm
  have c0 := x0.cell
  have g0 := x0.lt
  have hw := hM.okj hi
  have ht : ∀ W, Turns [] w' W → M.Then f (#[.int .u64 x, .int .i64 (hIx x)] ++ cap) W fun v w'' => M.I r (T x s).2 w'' ∧ M.Code n (T x s).1 v w'' := fun W hW => hT n hn x W s r (hm.trans (hw.mv hM hW)) (hM.jmade hW hi) hx
  have hfr : ∀ W, Turns [] w' W → Fr M.L M.ws w' W := fun W hW => hw.fr hM hW
  have o0 := x0.out
  have q0 := x0.row
  clear hT hi hm x0
  generalize T x s = R at *
  show M.Then _ #[.int .u64 x, ptr b] w' _
  have ff1 := field_head1
  unfold Gm.Then Ent at *
  go_enter Try.func92, Try.ntmps92
  go_wp2_with fail
  go_region_held3 (fun W' => W'.cell? ⟨b, 0, none⟩ = some (.func (.func f) #[] cap))
    (first | exact c0 | exact d0 | exact u0)
    (first
      | (go_at_call 71
         refine (headof_g x hx.1 _).mono ?_
         rintro e w1 ⟨rfl, t0⟩
         have t1 : Turns [] w' w1 := ((Turns.refl [] w').drew).trans t0
         have d0 := (t1.cell (p := ⟨b, 0, none⟩) g0 (by simp)).trans c0)
      | (refine (ht _ t1).mono ?_
         rintro e w2 ⟨v, rfl, hq, t2⟩
         have t3 := (hfr _ t1).trans t2
         have u0 := (t3.cell (p := ⟨b, 0, none⟩) g0 o0 q0).trans c0))
  go_wp2
  go_ret
  exact ⟨v, rfl, hq, t3⟩

theorem read_g (A : M.Ar p c) (hM : M.Ok) {V : Int → St → Prop} (hV : ∀ s, A.ok (A.l s) → M.W q s → V (getA (A.l s) h) (A.put s (A.l s) (moreA (A.l s) h (A.k s)))) {T : Int → St → Pr × St} (hE : Ent f) (hw : M.OkW w) (hq : M.ended q = false) (hT : M.Cont m f cap w (fun x s => N64 x ∧ V x s) (fun x => #[.int .u64 x, .int .i64 (hIx x)]) T) (hs : ∀ s, M.step q s = T (getA (A.l s) h) (A.put s (A.l s) (moreA (A.l s) h (A.k s)))) :
    M.Makes m q 62 #[chV p h lf lcap, .func (.func f) #[] cap] w := by
  have hmf := hmf_run
  have k2 : Turns [] w ((w.alloc (.cells (chC p h lf lcap) 93)).alloc (.cells #[.func (.func f) #[] cap] 117)) := ((Turns.refl _ _).alloc _).alloc _
  have l0 : Lies ((w.alloc (.cells (chC p h lf lcap) 93)).alloc (.cells #[.func (.func f) #[] cap] 117)) w.heap.size 93 (chC p h lf lcap) := (Lies.new _ _ _).alloc _
  have l1 : Lies ((w.alloc (.cells (chC p h lf lcap) 93)).alloc (.cells #[.func (.func f) #[] cap] 117)) (w.heap.size + 1) 117 #[.func (.func f) #[] cap] := Lies.new_of _ _ (by simp)
  obtain ⟨c0, c1, _⟩ := ch_cells l0
  have hl := load_g (i := h) (f := 92) (cap := #[ptr (w.heap.size + 1)]) A hM hV ent_read1 (hw.made hM k2) hq (read1_g hM hE (hw.box hM k2 (by omega) l1 (by decide)) (hT.mv (hw.mv hM k2))) hs
  clear hT hs l0 l1
  unfold Gm.Makes at *
  go_enter Try.func62, Try.ntmps62
  go_upto_region 1 with (fail)
  generalize ((w.alloc (.cells (chC p h lf lcap) 93)).alloc (.cells #[.func (.func f) #[] cap] 117)) = w2 at *
  go_wp2_with fail
  refine hl.mono ?_
  rintro e w3 ⟨v, rfl, hc, t3⟩
  go_wp2
  go_ret
  exact ⟨v, rfl, hc, k2.trans t3⟩

theorem next1_g (hM : M.Ok) {V : Int → St → Prop} {T : Int → St → Pr × St} (hE : Ent f) (x0 : M.Bx w b 109 #[.func (.func f) #[] cap]) (hT : M.Cont m f cap w (fun x s => N64 x ∧ V x s) (fun x => #[.int .i64 (nxOf x)]) T) :
    M.Cont m 104 #[ptr b] w (fun x s => N64 x ∧ V x s) (fun x => #[.int .u64 x]) T := by
  intro n hn x w' s r hm hi hx
  have x0 := x0.mv hm
  have c0 := x0.cell
  have g0 := x0.lt
  have hw := hM.okj hi
  have ht : ∀ W, Turns [] w' W → M.Then f (#[.int .i64 (nxOf x)] ++ cap) W fun v w'' => M.I r (T x s).2 w'' ∧ M.Code n (T x s).1 v w'' := fun W hW => hT n hn x W s r (hm.trans (hw.mv hM hW)) (hM.jmade hW hi) hx
  have hfr : ∀ W, Turns [] w' W → Fr M.L M.ws w' W := fun W hW => hw.fr hM hW
  have o0 := x0.out
  have q0 := x0.row
  have hin := lkd_in hx.1
  clear hT hi hm x0
  generalize T x s = R at *
  show M.Then _ #[.int .u64 x, ptr b] w' _
  unfold Gm.Then Ent at *
  by_cases hcn : lkd x ≤ 4294967294
  · have hc : cnB (lkd x) = true := by simp [cnB, hcn]
    have e1 : nxOf x = lkd x := by
      have := hx.1
      unfold N64 at this
      unfold lkd at hcn ⊢
      unfold nxOf
      split at hcn
      · rw [if_pos (by omega), if_pos (by omega)]
      · rw [if_neg (by omega), if_neg (by omega)]
    have cnc := fun W => canname_g (lkd x) hin W
    rw [hc] at cnc
    rw [e1] at ht
    have hlk := fun W => linked_g x hx.1 W
    clear hin e1 hc
    generalize lkd x = y at *
    go_enter Try.func104, Try.ntmps104
    go_wp2_with fail
    refine (hlk _).mono ?_
    rintro e w1 ⟨rfl, rfl⟩
    go_wp2_with fail
    refine (cnc _).mono ?_
    rintro e w2 ⟨rfl, t1⟩
    have d0 := (t1.cell (p := ⟨b, 0, none⟩) g0 (by simp)).trans c0
    go_wp2_with fail
    refine (ht _ t1).mono ?_
    rintro e w3 ⟨v, rfl, hq, t2⟩
    have t3 := (hfr _ t1).trans t2
    go_wp2
    go_ret
    exact ⟨v, rfl, hq, t3⟩
  · have hc : cnB (lkd x) = false := by simp [cnB, hcn]
    have e1 : nxOf x = -1 := by
      have := hx.1
      unfold N64 at this
      unfold lkd at hcn
      unfold nxOf
      split at hcn
      · rw [if_pos (by omega)]
      · rw [if_pos (by omega)]
    have cnc := fun W => canname_g (lkd x) hin W
    rw [hc] at cnc
    rw [e1] at ht
    have hlk := fun W => linked_g x hx.1 W
    clear hin e1 hc
    generalize lkd x = y at *
    go_enter Try.func104, Try.ntmps104
    go_wp2_with fail
    refine (hlk _).mono ?_
    rintro e w1 ⟨rfl, rfl⟩
    go_wp2_with fail
    refine (cnc _).mono ?_
    rintro e w2 ⟨rfl, t1⟩
    have d0 := (t1.cell (p := ⟨b, 0, none⟩) g0 (by simp)).trans c0
    go_wp2_with fail
    refine (ht _ t1).mono ?_
    rintro e w3 ⟨v, rfl, hq, t2⟩
    have t3 := (hfr _ t1).trans t2
    go_wp2
    go_ret
    exact ⟨v, rfl, hq, t3⟩

theorem turn_g (A : M.Ar p c) (hM : M.Ok) {T : Bool → St → Pr × St} {old i : Int} (hO : ∀ l, A.ok l → A.ok (casA l h old (newH old i))) {D : Bool → St → Prop} (hD : ∀ s, A.ok (A.l s) → M.W q s → D (casB (A.l s) h old) (A.put s (casA (A.l s) h old (newH old i)) (moreA (A.l s) h (A.k s)))) (hE : Ent f) (hw : M.OkW w) (ho : N64 old) (hi : Ix0 i) (hq : M.ended q = false) (hT : M.Cont m f cap w D (fun b => #[.bool b]) T)
    (hs : ∀ s, M.step q s = T (casB (A.l s) h old) (A.put s (casA (A.l s) h old (newH old i)) (moreA (A.l s) h (A.k s)))) :
    M.Makes m q 83 #[chV p h lf lcap, .int .u64 old, .int .i64 i, .func (.func f) #[] cap] w := by
  have k1 : Turns [] w (w.alloc (.cells (chC p h lf lcap) 93)) := (Turns.refl _ _).alloc _
  have l0 : Lies (w.alloc (.cells (chC p h lf lcap) 93)) w.heap.size 93 (chC p h lf lcap) := Lies.new _ _ _
  have hc := hCt_in ho
  have cW := fun W => hword_g ((hCt old + 1) % 4294967296) i (by omega) hi W
  have cC := fun W (hW : Turns [] w W) => cas_g (i := h) (o := old) (x := newH old i) A hM hO hD hE (hw.made hM hW) (newH_in hi) hq (hT.mv (hw.mv hM hW)) hs
  have hnw : (hCt old + 1) % 4294967296 * 4294967296 + (i + 1) = newH old i := rfl
  rw [hnw] at cW
  have ff0 := field_head0
  clear hT hs hnw
  unfold Gm.Makes at *
  go_enter Try.func83, Try.ntmps83
  go_upto_region 1 with (fail)
  generalize (w.alloc (.cells (chC p h lf lcap) 93)) = w1 at *
  go_wp2_with fail
  refine (headof_g old ho _).mono ?_
  rintro e w2 ⟨rfl, t2⟩
  generalize newH old i = nh at *
  generalize hCt old = ct at *
  obtain ⟨c0, c1, _⟩ := ch_cells (l0.turn t2 (by simp))
  go_wp2_with fail
  refine (cW _).mono ?_
  rintro e w3 ⟨rfl, t3⟩
  have d0 := (t3.cell (p := ⟨w.heap.size, 0, none⟩) (by have := l0.lt; exact Nat.lt_of_lt_of_le this t2.size) (by simp)).trans c0
  have d1 := (t3.cell (p := ⟨w.heap.size, 1, none⟩) (by have := l0.lt; exact Nat.lt_of_lt_of_le this t2.size) (by simp)).trans c1
  have k3 := (k1.trans t2).trans t3
  clear c0 c1
  have cC := cC _ k3
  go_wp2_with fail
  refine cC.mono ?_
  rintro e w4 ⟨v, rfl, hc4, t4⟩
  go_wp2
  go_ret
  exact ⟨v, rfl, hc4, k3.trans t4⟩

theorem next_g (A : M.Ar p c) (hM : M.Ok) {V : Int → St → Prop} {T : Int → St → Pr × St} {i : Int} (hV : ∀ s, A.ok (A.l s) → M.W q s → V (getA (A.l s) (lk i)) (A.put s (A.l s) (moreA (A.l s) (lk i) (A.k s)))) (hE : Ent f) (hw : M.OkW w) (hL : M.Lk w lf lcap lk) (hi : Ix i) (hq : M.ended q = false) (hT : M.Cont m f cap w (fun x s => N64 x ∧ V x s) (fun x => #[.int .i64 (nxOf x)]) T)
    (hs : ∀ s, M.step q s = T (getA (A.l s) (lk i)) (A.put s (A.l s) (moreA (A.l s) (lk i) (A.k s)))) :
    M.Makes m q 85 #[chV p h lf lcap, .int .i64 i, .func (.func f) #[] cap] w := by
  have hmf := hmf_run
  have k2 : Turns [] w ((w.alloc (.cells (chC p h lf lcap) 93)).alloc (.cells #[.func (.func f) #[] cap] 109)) := ((Turns.refl _ _).alloc _).alloc _
  have l0 : Lies ((w.alloc (.cells (chC p h lf lcap) 93)).alloc (.cells #[.func (.func f) #[] cap] 109)) w.heap.size 93 (chC p h lf lcap) := (Lies.new _ _ _).alloc _
  have l1 : Lies ((w.alloc (.cells (chC p h lf lcap) 93)).alloc (.cells #[.func (.func f) #[] cap] 109)) (w.heap.size + 1) 109 #[.func (.func f) #[] cap] := Lies.new_of _ _ (by simp)
  have b1 := hw.box hM k2 (by omega) l1 (by decide)
  obtain ⟨W2, hW2⟩ : ∃ W2, ((w.alloc (.cells (chC p h lf lcap) 93)).alloc (.cells #[.func (.func f) #[] cap] 109)) = W2 := ⟨_, rfl⟩
  rw [hW2] at k2 l0 b1
  have cN : ∀ W, Turns [] W2 W → M.Makes m q 48 #[ptr p, .int .i64 (lk i), .func (.func 104) #[] #[ptr (w.heap.size + 1)]] W := fun W hW => load_g A hM hV ent_next1 ((hw.made hM k2).made hM hW) hq (next1_g hM hE (b1.mv ((hw.made hM k2).mv hM hW)) (hT.mv ((hw.mv hM k2).trans ((hw.made hM k2).mv hM hW)))) hs
  have cL := fun W (hW : Turns [] W2 W) => hL.run W i ((hw.mv hM k2).trans ((hw.made hM k2).mv hM hW)) hi
  have eL := hL.ent
  clear hT hs b1 l1
  obtain ⟨c0, c1, c2⟩ := ch_cells l0
  have g0 := l0.lt
  unfold Gm.Makes Ent at *
  go_enter Try.func85, Try.ntmps85
  go_upto_region 1 with (fail)
  clear hW2
  go_wp2_with fail
  go_region_held3 (fun W' => W'.cell? ⟨w.heap.size, 0, none⟩ = some (ptr p) ∧ W'.cell? ⟨w.heap.size, 2, none⟩ = some (.func (.func lf) #[] lcap))
    (first | exact ⟨c0, c2⟩ | exact ⟨d0, d2⟩ | exact ⟨u0, u2⟩)
    (first
      | (go_at_call 48
         refine (cN _ t1).mono ?_
         rintro e w4 ⟨v, rfl, hc4, t4⟩
         have t5 := t1.trans t4
         have u0 := (t5.cell (p := ⟨w.heap.size, 0, none⟩) g0 (by simp)).trans c0
         have u2 := (t5.cell (p := ⟨w.heap.size, 2, none⟩) g0 (by simp)).trans c2)
      | (refine (cL _ ((Turns.refl [] W2).drew)).mono ?_
         rintro e w3 ⟨rfl, t0⟩
         have t1 : Turns [] W2 w3 := ((Turns.refl [] W2).drew).trans t0
         have d0 := (t1.cell (p := ⟨w.heap.size, 0, none⟩) g0 (by simp)).trans c0
         have d2 := (t1.cell (p := ⟨w.heap.size, 2, none⟩) g0 (by simp)).trans c2))
  all_goals
    go_wp2
    go_ret
    exact ⟨v, rfl, hc4, k2.trans t5⟩
end


end Go.Proofs.Ythjbmaeoogophaa

/- The chain's code: Take and Lay. -/
namespace Go.Proofs.Ythjbmaeoogophaa
open Go.RowKit
set_option maxRecDepth 100000

section
variable {St Pr : Type} {M : Gm St Pr} {p c : Nat} {q : Pr} {m f b b1 b2 b3 : Nat} {h old i : Int} {lf : FuncId} {lcap cap : Array Value} {lk : Int → Int} {w : World}

theorem take1_g (A : M.Ar p c) (hM : M.Ok) {V : Int → Prop} {D : Bool → St → Prop} (hO : ∀ x, N64 x → V x → ∀ l, A.ok l → A.ok (casA l h old (newH old (nxOf x)))) {qT : Int → Pr} {T : Bool → St → Pr × St} (hD : ∀ y s, Ix0 y → A.ok (A.l s) → M.W (qT y) s → D (casB (A.l s) h old) (A.put s (casA (A.l s) h old (newH old y)) (moreA (A.l s) h (A.k s)))) (hE : Ent f) (x1 : M.Bx w b1 93 (chC p h lf lcap)) (x2 : M.Bx w b2 75 #[.int .u64 old]) (x3 : M.Bx w b3 103 #[.func (.func f) #[] cap])
    (ho : N64 old) (hq : ∀ y, M.ended (qT y) = false) (hT : M.Cont m f cap w D (fun b => #[.bool b]) T)
    (hs : ∀ y s, Ix0 y → M.step (qT y) s = T (casB (A.l s) h old) (A.put s (casA (A.l s) h old (newH old y)) (moreA (A.l s) h (A.k s)))) :
    M.Cont m 93 #[ptr b1, ptr b2, ptr b3] w (fun x _ => N64 x ∧ V x) (fun x => #[.int .i64 (nxOf x)]) (fun x s => (qT (nxOf x), s)) := by
  intro n hn x w' s r hm hi hx
  obtain ⟨c0, c1, c2⟩ := ch_cells (x1.mv hm).l
  have d0 := (x2.mv hm).cell
  have e0 := (x3.mv hm).cell
  have ht := (turn_g (m := n) (h := h) (lf := lf) (lcap := lcap) (i := nxOf x) A hM (hO x hx.1 hx.2) (fun s => hD _ s (nxOf_in hx.1)) hE (hM.okj hi) ho (nxOf_in hx.1) (hq _) ((hT.less (by omega)).mv hm) (fun s => hs _ s (nxOf_in hx.1))).then hM hi
  clear hT hi hm hs x1 x2 x3 hD
  show M.Then _ #[.int .i64 (nxOf x), ptr b1, ptr b2, ptr b3] w' (fun v w'' => M.I r s w'' ∧ M.Code n (qT (nxOf x)) v w'')
  generalize nxOf x = y at *
  unfold Gm.Then Ent at *
  go_enter Try.func93, Try.ntmps93
  go_wp2_with fail
  refine ht.mono ?_
  rintro e w2 ⟨v, rfl, hq, t2⟩
  go_wp2
  go_ret
  exact ⟨v, rfl, hq, t2⟩

theorem take_g (A : M.Ar p c) (hM : M.Ok) {V : Int → Prop} {D : Bool → St → Prop} (hV : ∀ l, A.ok l → V (getA l (lk (hIx old)))) (hO : ∀ x, N64 x → V x → ∀ l, A.ok l → A.ok (casA l h old (newH old (nxOf x)))) {qT : Int → Pr} {T : Bool → St → Pr × St} (hD : ∀ y s, Ix0 y → A.ok (A.l s) → M.W (qT y) s → D (casB (A.l s) h old) (A.put s (casA (A.l s) h old (newH old y)) (moreA (A.l s) h (A.k s)))) (hE : Ent f) (hw : M.OkW w) (hL : M.Lk w lf lcap lk) (ho : N64 old) (hi : hIx old ≠ -1) (hq : M.ended q = false) (hqT : ∀ y, M.ended (qT y) = false)
    (hT : M.Cont m f cap w D (fun b => #[.bool b]) T)
    (hs : ∀ s, M.step q s = (qT (nxOf (getA (A.l s) (lk (hIx old)))), A.put s (A.l s) (moreA (A.l s) (lk (hIx old)) (A.k s))))
    (hs2 : ∀ y s, Ix0 y → M.step (qT y) s = T (casB (A.l s) h old) (A.put s (casA (A.l s) h old (newH old y)) (moreA (A.l s) h (A.k s)))) :
    M.Makes m q 64 #[chV p h lf lcap, .int .u64 old, .func (.func f) #[] cap] w := by
  have hmf := hmf_run
  have ff1 := field_head1
  obtain ⟨W2, hW2⟩ : ∃ W2, (((w.alloc (.cells (chC p h lf lcap) 93)).alloc (.cells #[.int .u64 old] 75)).alloc (.cells #[.func (.func f) #[] cap] 103)) = W2 := ⟨_, rfl⟩
  have k2 : Turns [] w W2 := by rw [← hW2]; exact (((Turns.refl _ _).alloc _).alloc _).alloc _
  have l0 : Lies W2 w.heap.size 93 (chC p h lf lcap) := by rw [← hW2]; exact ((Lies.new _ _ _).alloc _).alloc _
  have l1 : Lies W2 (w.heap.size + 1) 75 #[.int .u64 old] := by rw [← hW2]; exact (Lies.new_of _ _ (by simp)).alloc _
  have l2 : Lies W2 (w.heap.size + 1 + 1) 103 #[.func (.func f) #[] cap] := by rw [← hW2]; exact Lies.new_of _ _ (by simp)
  have x0 := hw.box hM k2 (by omega) l0 (by decide)
  have x1 := hw.box hM k2 (by omega) l1 (by decide)
  have x2 := hw.box hM k2 (by omega) l2 (by decide)
  have hw2 := hw.made hM k2
  have hm2 := hw.mv hM k2
  have cN : ∀ W, Turns [] W2 W → M.Makes m q 85 #[chV p h lf lcap, .int .i64 (hIx old), .func (.func 93) #[] #[ptr w.heap.size, ptr (w.heap.size + 1), ptr (w.heap.size + 1 + 1)]] W := fun W hW =>
    next_g (h := h) (V := fun x _ => V x) A hM (fun s hs _ => hV _ hs) ent_take1 (hw2.made hM hW) ((hL.mv hm2).mv (hw2.mv hM hW)) (hIx_ix hi) hq (take1_g A hM hO hD hE (x0.mv (hw2.mv hM hW)) (x1.mv (hw2.mv hM hW)) (x2.mv (hw2.mv hM hW)) ho hqT ((hT.mv hm2).mv (hw2.mv hM hW)) hs2) hs
  have eo := ho
  clear hT hs hs2 x0 x1 x2 hw2 hm2
  obtain ⟨c0, c1, c2⟩ := ch_cells l0
  have d0 : W2.cell? ⟨w.heap.size + 1, 0, none⟩ = some (.int .u64 old) := l1.cell 0
  have g0 := l0.lt
  have g1 := l1.lt
  unfold Gm.Makes Ent at *
  go_enter Try.func64, Try.ntmps64
  go_upto_region 1 with (fail)
  clear hW2
  go_wp2_with fail
  go_region_held3 (fun W' => W'.cell? ⟨w.heap.size, 0, none⟩ = some (ptr p) ∧ W'.cell? ⟨w.heap.size, 1, none⟩ = some (.int .i64 h) ∧ W'.cell? ⟨w.heap.size, 2, none⟩ = some (.func (.func lf) #[] lcap) ∧ W'.cell? ⟨w.heap.size + 1, 0, none⟩ = some (.int .u64 old))
    (first | exact ⟨c0, c1, c2, d0⟩ | exact ⟨u0, u1, u2, u3⟩ | exact ⟨v0, v1, v2, v3⟩)
    (first
      | (go_at_call 71
         refine (headof_g old eo _).mono ?_
         rintro e w3 ⟨rfl, t0⟩
         have t1 : Turns [] W2 w3 := ((Turns.refl [] W2).drew).trans t0
         have u0 := (t1.cell (p := ⟨w.heap.size, 0, none⟩) g0 (by simp)).trans c0
         have u1 := (t1.cell (p := ⟨w.heap.size, 1, none⟩) g0 (by simp)).trans c1
         have u2 := (t1.cell (p := ⟨w.heap.size, 2, none⟩) g0 (by simp)).trans c2
         have u3 := (t1.cell (p := ⟨w.heap.size + 1, 0, none⟩) g1 (by simp)).trans d0)
      | (go_at_call 85
         refine (cN _ t1).mono ?_
         rintro e w4 ⟨v, rfl, hc4, t4⟩
         have t5 := t1.trans t4
         have v0 := (t5.cell (p := ⟨w.heap.size, 0, none⟩) g0 (by simp)).trans c0
         have v1 := (t5.cell (p := ⟨w.heap.size, 1, none⟩) g0 (by simp)).trans c1
         have v2 := (t5.cell (p := ⟨w.heap.size, 2, none⟩) g0 (by simp)).trans c2
         have v3 := (t5.cell (p := ⟨w.heap.size + 1, 0, none⟩) g1 (by simp)).trans d0))
  all_goals
    go_wp2
    go_ret
    exact ⟨v, rfl, hc4, k2.trans t5⟩

theorem lay1_g (A : M.Ar p c) (hM : M.Ok) (hO : ∀ l, A.ok l → A.ok (casA l h old (newH old i))) {qT : Pr} {D : Bool → St → Prop} {T : Bool → St → Pr × St} (hD : ∀ s, A.ok (A.l s) → M.W qT s → D (casB (A.l s) h old) (A.put s (casA (A.l s) h old (newH old i)) (moreA (A.l s) h (A.k s)))) (hE : Ent f) (x0 : M.Bx w b 93 (chC p h lf lcap)) (x1 : M.Bx w b1 75 #[.int .u64 old]) (x2 : M.Bx w b2 3 #[.int .i64 i]) (x3 : M.Bx w b3 103 #[.func (.func f) #[] cap])
    (ho : N64 old) (hi0 : Ix0 i) (hq : M.ended qT = false) (hT : M.Cont m f cap w D (fun b => #[.bool b]) T)
    (hs : ∀ s, M.step qT s = T (casB (A.l s) h old) (A.put s (casA (A.l s) h old (newH old i)) (moreA (A.l s) h (A.k s)))) :
    M.Cont m 98 #[ptr b, ptr b1, ptr b2, ptr b3] w (fun (_ : Unit) _ => True) (fun _ => #[]) (fun _ s => (qT, s)) := by
  intro n hn x w' s r hm hi hx
  obtain ⟨c0, c1, c2⟩ := ch_cells (x0.mv hm).l
  have d0 := (x1.mv hm).cell
  have e0 := (x2.mv hm).cell
  have f0 := (x3.mv hm).cell
  have ht := (turn_g (m := n) (h := h) (lf := lf) (lcap := lcap) (i := i) A hM hO hD hE (hM.okj hi) ho hi0 hq ((hT.less (by omega)).mv hm) hs).then hM hi
  clear hT hi hm hs x0 x1 x2 x3
  show M.Then _ #[ptr b, ptr b1, ptr b2, ptr b3] w' _
  unfold Gm.Then Ent at *
  go_enter Try.func98, Try.ntmps98
  go_wp2_with fail
  refine ht.mono ?_
  rintro e w2 ⟨v, rfl, hq, t2⟩
  go_wp2
  go_ret
  exact ⟨v, rfl, hq, t2⟩

theorem lay_g (A : M.Ar p c) (hM : M.Ok) (hO1 : ∀ l, A.ok l → A.ok (setA l (lk i) (hIx old + 1))) (hO : ∀ l, A.ok l → A.ok (casA l h old (newH old i))) {qT : Pr} {D : Bool → St → Prop} {T : Bool → St → Pr × St} (hD : ∀ s, A.ok (A.l s) → M.W qT s → D (casB (A.l s) h old) (A.put s (casA (A.l s) h old (newH old i)) (moreA (A.l s) h (A.k s)))) (hE : Ent f) (hw : M.OkW w) (hL : M.Lk w lf lcap lk) (ho : N64 old) (hi : Ix i) (hq : M.ended q = false) (hqT : M.ended qT = false)
    (hT : M.Cont m f cap w D (fun b => #[.bool b]) T)
    (hs : ∀ s, M.step q s = (qT, A.put s (setA (A.l s) (lk i) (hIx old + 1)) (moreA (A.l s) (lk i) (A.k s))))
    (hs2 : ∀ s, M.step qT s = T (casB (A.l s) h old) (A.put s (casA (A.l s) h old (newH old i)) (moreA (A.l s) h (A.k s)))) :
    M.Makes m q 68 #[chV p h lf lcap, .int .u64 old, .int .i64 i, .func (.func f) #[] cap] w := by
  have hmf := hmf_run
  have ff1 := field_head1
  obtain ⟨W2, hW2⟩ : ∃ W2, ((((w.alloc (.cells (chC p h lf lcap) 93)).alloc (.cells #[.int .u64 old] 75)).alloc (.cells #[.int .i64 i] 3)).alloc (.cells #[.func (.func f) #[] cap] 103)) = W2 := ⟨_, rfl⟩
  have k2 : Turns [] w W2 := by rw [← hW2]; exact ((((Turns.refl _ _).alloc _).alloc _).alloc _).alloc _
  have l0 : Lies W2 w.heap.size 93 (chC p h lf lcap) := by rw [← hW2]; exact (((Lies.new _ _ _).alloc _).alloc _).alloc _
  have l1 : Lies W2 (w.heap.size + 1) 75 #[.int .u64 old] := by rw [← hW2]; exact ((Lies.new_of _ _ (by simp)).alloc _).alloc _
  have l2 : Lies W2 (w.heap.size + 1 + 1) 3 #[.int .i64 i] := by rw [← hW2]; exact (Lies.new_of _ _ (by simp)).alloc _
  have l3 : Lies W2 (w.heap.size + 1 + 1 + 1) 103 #[.func (.func f) #[] cap] := by rw [← hW2]; exact Lies.new_of _ _ (by simp)
  have x0 := hw.box hM k2 (by omega) l0 (by decide)
  have x1 := hw.box hM k2 (by omega) l1 (by decide)
  have x2 := hw.box hM k2 (by omega) l2 (by decide)
  have x3 := hw.box hM k2 (by omega) l3 (by decide)
  have hw2 := hw.made hM k2
  have hm2 := hw.mv hM k2
  have hx1 : N64 (hIx old + 1) := by have := hIx_in (v := old); unfold Ix0 at this; unfold N64; omega
  have cN : ∀ W, Turns [] W2 W → M.Makes m q 96 #[ptr p, .int .i64 (lk i), .int .u64 (hIx old + 1), .func (.func 98) #[] #[ptr w.heap.size, ptr (w.heap.size + 1), ptr (w.heap.size + 1 + 1), ptr (w.heap.size + 1 + 1 + 1)]] W := fun W hW =>
    store_g (D := fun _ => True) A hM hO1 (fun _ _ _ => trivial) ent_lay1 (hw2.made hM hW) hx1 hq (lay1_g A hM hO hD hE (x0.mv (hw2.mv hM hW)) (x1.mv (hw2.mv hM hW)) (x2.mv (hw2.mv hM hW)) (x3.mv (hw2.mv hM hW)) ho hi.zero hqT ((hT.mv hm2).mv (hw2.mv hM hW)) hs2) hs
  have cL := fun W (hW : Turns [] W2 W) => hL.run W i (hm2.trans (hw2.mv hM hW)) hi
  have eL := hL.ent
  have eo := ho
  have hin := hIx_in (v := old)
  clear hT hs hs2 x0 x1 x2 x3 hw2 hm2
  obtain ⟨c0, c1, c2⟩ := ch_cells l0
  have d0 : W2.cell? ⟨w.heap.size + 1, 0, none⟩ = some (.int .u64 old) := l1.cell 0
  have e0 : W2.cell? ⟨w.heap.size + 1 + 1, 0, none⟩ = some (.int .i64 i) := l2.cell 0
  have g0 := l0.lt
  have g1 := l1.lt
  have g2 := l2.lt
  unfold Gm.Makes Ent at *
  go_enter Try.func68, Try.ntmps68
  go_upto_region 1 with (fail)
  clear hW2
  go_wp2_with fail
  go_region_held3 (fun W' => W'.cell? ⟨w.heap.size, 0, none⟩ = some (ptr p) ∧ W'.cell? ⟨w.heap.size, 2, none⟩ = some (.func (.func lf) #[] lcap) ∧ W'.cell? ⟨w.heap.size + 1, 0, none⟩ = some (.int .u64 old) ∧ W'.cell? ⟨w.heap.size + 1 + 1, 0, none⟩ = some (.int .i64 i))
    (first | exact ⟨c0, c2, d0, e0⟩ | exact ⟨u0, u1, u2, u3⟩ | exact ⟨v0, v1, v2, v3⟩ | exact ⟨z0, z1, z2, z3⟩)
    (first
      | (go_at_call 71
         refine (headof_g old eo _).mono ?_
         rintro e w4 ⟨rfl, t4⟩
         have t5 := t1.trans t4
         have v0 := (t5.cell (p := ⟨w.heap.size, 0, none⟩) g0 (by simp)).trans c0
         have v1 := (t5.cell (p := ⟨w.heap.size, 2, none⟩) g0 (by simp)).trans c2
         have v2 := (t5.cell (p := ⟨w.heap.size + 1, 0, none⟩) g1 (by simp)).trans d0
         have v3 := (t5.cell (p := ⟨w.heap.size + 1 + 1, 0, none⟩) g2 (by simp)).trans e0)
      | (go_at_call 97
         refine (linkto_g (hIx old) hin _).mono ?_
         rintro e w5 ⟨rfl, rfl⟩)
      | (go_at_call 96
         refine (cN _ t5).mono ?_
         rintro e w6 ⟨v, rfl, hc6, t6⟩
         have t7 := t5.trans t6
         have z0 := (t7.cell (p := ⟨w.heap.size, 0, none⟩) g0 (by simp)).trans c0
         have z1 := (t7.cell (p := ⟨w.heap.size, 2, none⟩) g0 (by simp)).trans c2
         have z2 := (t7.cell (p := ⟨w.heap.size + 1, 0, none⟩) g1 (by simp)).trans d0
         have z3 := (t7.cell (p := ⟨w.heap.size + 1 + 1, 0, none⟩) g2 (by simp)).trans e0)
      | (refine (cL _ ((Turns.refl [] W2).drew)).mono ?_
         rintro e w3 ⟨rfl, t0⟩
         have t1 : Turns [] W2 w3 := ((Turns.refl [] W2).drew).trans t0
         have u0 := (t1.cell (p := ⟨w.heap.size, 0, none⟩) g0 (by simp)).trans c0
         have u1 := (t1.cell (p := ⟨w.heap.size, 2, none⟩) g0 (by simp)).trans c2
         have u2 := (t1.cell (p := ⟨w.heap.size + 1, 0, none⟩) g1 (by simp)).trans d0
         have u3 := (t1.cell (p := ⟨w.heap.size + 1 + 1, 0, none⟩) g2 (by simp)).trans e0))
  all_goals
    go_wp2
    go_ret
    exact ⟨v, rfl, hc6, k2.trans t7⟩
end

end Go.Proofs.Ythjbmaeoogophaa

/- The stack's code: Pop and Push. -/
namespace Go.Proofs.Ythjbmaeoogophaa
open Go.RowKit
set_option maxRecDepth 100000

theorem ent_pop1 : Ent 63 := ent_of Try.func63 (by kernel_rfl) (by kernel_rfl)
theorem ent_pop11 : Ent 65 := ent_of Try.func65 (by kernel_rfl) (by kernel_rfl)
theorem ent_push1 : Ent 67 := ent_of Try.func67 (by kernel_rfl) (by kernel_rfl)
theorem ent_push11 : Ent 69 := ent_of Try.func69 (by kernel_rfl) (by kernel_rfl)

section
variable {St Pr : Type} {M : Gm St Pr} {p c : Nat}

/-- what heads (V), links (U) and things (Y) there may be, as long as the arena's numbers are as they may be. -/
structure Gm.ChOk (A : M.Ar p c) (h : Int) (lk : Int → Int) (V U Y : Int → Prop) : Prop where
  hd : ∀ l, A.ok l → V (getA l h)
  nx : ∀ l o, A.ok l → V o → hIx o ≠ -1 → U (getA l (lk (hIx o)))
  tk : ∀ l o x, A.ok l → N64 o → V o → hIx o ≠ -1 → N64 x → U x → A.ok (casA l h o (newH o (nxOf x)))
  ly : ∀ l o i, A.ok l → V o → Y i → A.ok (setA l (lk i) (hIx o + 1))
  tn : ∀ l o i, A.ok l → N64 o → V o → Y i → A.ok (casA l h o (newH o i))
  ix : ∀ i, Y i → Ix i
  room : ∀ l i, A.ok l → Y i → hasA l h = true ∧ hasA l (lk i) = true

/-- what a Pop does, step by step: it is to read the head, the link, to turn the head. -/
structure Gm.PopQ (A : M.Ar p c) (h : Int) (lk : Int → Int) (qR : Pr) (qN : Int → Pr) (qT : Int → Int → Pr) (E : Int → Bool → St → Prop) (T : Int → Bool → St → Pr × St) : Prop where
  eR : M.ended qR = false
  eN : ∀ o, M.ended (qN o) = false
  eT : ∀ o y, M.ended (qT o y) = false
  sR : ∀ s, M.step qR s = if hIx (getA (A.l s) h) = -1 then T (-1) false (A.put s (A.l s) (moreA (A.l s) h (A.k s))) else (qN (getA (A.l s) h), A.put s (A.l s) (moreA (A.l s) h (A.k s)))
  sN : ∀ o s, M.step (qN o) s = (qT o (nxOf (getA (A.l s) (lk (hIx o)))), A.put s (A.l s) (moreA (A.l s) (lk (hIx o)) (A.k s)))
  sT : ∀ o y s, M.step (qT o y) s = if casB (A.l s) h o = true then T (hIx o) true (A.put s (casA (A.l s) h o (newH o y)) (moreA (A.l s) h (A.k s))) else (qR, A.put s (casA (A.l s) h o (newH o y)) (moreA (A.l s) h (A.k s)))

  /-- what then may ask of the state. -/
  wR : ∀ s, A.ok (A.l s) → M.W qR s → hIx (getA (A.l s) h) = -1 → E (-1) false (A.put s (A.l s) (moreA (A.l s) h (A.k s)))
  wT : ∀ o y s, A.ok (A.l s) → M.W (qT o y) s → casB (A.l s) h o = true → E (hIx o) true (A.put s (casA (A.l s) h o (newH o y)) (moreA (A.l s) h (A.k s)))

/-- what a Pop may tell. -/
def PopD (V : Int → Prop) (x : Int × Bool) : Prop := (x.2 = true → ∃ o, N64 o ∧ V o ∧ hIx o ≠ -1 ∧ x.1 = hIx o) ∧ (x.2 = false → x.1 = -1)

variable {m f b b1 b2 b3 : Nat} {h old i : Int} {lf : FuncId} {lcap cap : Array Value} {lk : Int → Int} {w : World} {qR : Pr} {qN : Int → Pr} {qT : Int → Int → Pr} {T : Int → Bool → St → Pr × St} {V U Y : Int → Prop} {E : Int → Bool → St → Prop}

/-- a stack's value is its chain's. -/
theorem pop11_g (hM : M.Ok) (hE : Ent f) (hi : ∃ o, N64 o ∧ V o ∧ hIx o ≠ -1 ∧ i = hIx o) (x0 : M.Bx w b 27 (chC p h lf lcap)) (x1 : M.Bx w b1 91 #[.func (.func f) #[] cap]) (x2 : M.Bx w b2 3 #[.int .i64 i])
    (hT : M.Cont m f cap w (fun x s => PopD V x ∧ E x.1 x.2 s) (fun x => #[.int .i64 x.1, .bool x.2]) (fun x => T x.1 x.2))
    (ih : ∀ n, n < m → ∀ w', Mv M.B (M.L ++ M.X) M.ws w w' → M.OkW w' → M.Makes n qR 39 #[chV p h lf lcap, .func (.func f) #[] cap] w') :
    M.Cont m 65 #[ptr b, ptr b1, ptr b2] w (fun b s => b = true → E i true s) (fun b => #[.bool b]) (fun b s => if b = true then T i true s else (qR, s)) := by
  intro n hn x w' s r hm hj hd
  have l0 := (x0.mv hm).l
  have c0 : w'.cell? ⟨b, 0, none⟩ = some (ptr p) := l0.cell 0
  have c1 : w'.cell? ⟨b, 1, none⟩ = some (.int .i64 h) := l0.cell 1
  have c2 : w'.cell? ⟨b, 2, none⟩ = some (.func (.func lf) #[] lcap) := l0.cell 2
  have d0 := (x1.mv hm).cell
  have e0 := (x2.mv hm).cell
  cases x with
  | false =>
    have ht := (ih n hn w' hm (hM.okj hj)).then hM hj
    clear hT hj hm ih x0 x1 x2 l0
    show M.Then _ #[.bool false, ptr b, ptr b1, ptr b2] w' (fun v w'' => M.I r s w'' ∧ M.Code n qR v w'')
    unfold Gm.Then Ent at *
    go_enter Try.func65, Try.ntmps65
    go_wp2_with fail
    refine ht.mono ?_
    rintro e w2 ⟨v, rfl, hq, t2⟩
    go_wp2
    go_ret
    exact ⟨v, rfl, hq, t2⟩
  | true =>
    have ht : M.Then f (#[.int .i64 i, .bool true] ++ cap) w' fun v w'' => M.I r (T i true s).2 w'' ∧ M.Code n (T i true s).1 v w'' := hT n hn (i, true) w' s r hm hj ⟨⟨fun _ => hi, fun e => absurd e (by simp)⟩, hd rfl⟩
    clear hT hj hm ih x0 x1 x2 l0
    show M.Then _ #[.bool true, ptr b, ptr b1, ptr b2] w' (fun v w'' => M.I r (T i true s).2 w'' ∧ M.Code n (T i true s).1 v w'')
    generalize T i true s = R at *
    unfold Gm.Then Ent at *
    go_enter Try.func65, Try.ntmps65
    go_wp2_with fail
    refine ht.mono ?_
    rintro e w2 ⟨v, rfl, hq, t2⟩
    go_wp2
    go_ret
    exact ⟨v, rfl, hq, t2⟩

theorem pop1_g (A : M.Ar p c) (hM : M.Ok) (hC : Gm.ChOk A h lk V U Y) (hQ : Gm.PopQ A h lk qR qN qT E T) (hE : Ent f) (hL : M.Lk w lf lcap lk) (x0 : M.Bx w b 91 #[.func (.func f) #[] cap]) (x1 : M.Bx w b1 93 (chC p h lf lcap)) (x2 : M.Bx w b2 27 (chC p h lf lcap))
    (hT : M.Cont m f cap w (fun x s => PopD V x ∧ E x.1 x.2 s) (fun x => #[.int .i64 x.1, .bool x.2]) (fun x => T x.1 x.2))
    (ih : ∀ n, n < m → ∀ w', Mv M.B (M.L ++ M.X) M.ws w w' → M.OkW w' → M.Makes n qR 39 #[chV p h lf lcap, .func (.func f) #[] cap] w') :
    M.Cont m 63 #[ptr b, ptr b1, ptr b2] w (fun x s => N64 x ∧ (V x ∧ (hIx x = -1 → E (-1) false s))) (fun x => #[.int .u64 x, .int .i64 (hIx x)]) (fun x s => if hIx x = -1 then T (-1) false s else (qN x, s)) := by
  intro n hn x w' s r hm hj hx
  have hw := hM.okj hj
  have tu : Turns [] w' (w'.alloc (.cells #[.int .i64 (hIx x)] 3)) := (Turns.refl _ _).alloc _
  have lF : Lies (w'.alloc (.cells #[.int .i64 (hIx x)] 3)) w'.heap.size 3 #[.int .i64 (hIx x)] := Lies.new _ _ _
  have x3 := hw.box hM tu (Nat.le_refl _) lF (by decide)
  have hw2 := hw.made hM tu
  have hm2 := hm.trans (hw.mv hM tu)
  have x0 := x0.mv hm2
  have x1 := x1.mv hm2
  have x2 := x2.mv hm2
  obtain ⟨c0, c1, c2⟩ := ch_cells x1.l
  have d0 := x0.cell
  have e0 := x3.cell
  have fr := hw.fr hM tu
  have hmf := hmf_run
  by_cases hz : hIx x = -1
  · have ht : M.Then f (#[.int .i64 (-1), .bool false] ++ cap) (w'.alloc (.cells #[.int .i64 (hIx x)] 3)) fun v w'' => M.I r (T (-1) false s).2 w'' ∧ M.Code n (T (-1) false s).1 v w'' := hT n hn (-1, false) _ s r hm2 (hM.jmade tu hj) ⟨⟨fun e => absurd e (by simp), fun _ => rfl⟩, hx.2.2 hz⟩
    clear hT hj hm hm2 ih x0 x1 x2 x3 lF
    have hg : M.Then 63 #[.int .u64 x, .int .i64 (hIx x), ptr b, ptr b1, ptr b2] w' (fun v w'' => M.I r (T (-1) false s).2 w'' ∧ M.Code n (T (-1) false s).1 v w'') := by
      generalize T (-1) false s = R at *
      generalize hIx x = y at *
      subst hz
      unfold Gm.Then Ent at *
      go_enter Try.func63, Try.ntmps63
      go_wp2_with fail
      refine ht.mono ?_
      rintro e w2 ⟨v, rfl, hq, t2⟩
      go_wp2
      go_ret
      exact ⟨v, rfl, hq, fr.trans t2⟩
    refine hg.mono fun v w'' hh => ?_
    show M.I r (if hIx x = -1 then T (-1) false s else (qN x, s)).2 w'' ∧ M.Code n (if hIx x = -1 then T (-1) false s else (qN x, s)).1 v w''
    rw [if_pos hz]
    exact hh
  · have hi : ∃ o, N64 o ∧ V o ∧ hIx o ≠ -1 ∧ hIx x = hIx o := ⟨x, hx.1, hx.2.1, hz, rfl⟩
    have ht := (take_g (m := n) (f := 65) (cap := #[ptr b2, ptr b, ptr w'.heap.size]) (T := fun bb s => if bb = true then T (hIx x) true s else (qR, s)) A hM (fun l hl => hC.nx l x hl hx.2.1 hz) (fun y h1 h2 l hl => hC.tk l x y hl hx.1 hx.2.1 hz h1 h2) (D := fun b s => b = true → E (hIx x) true s) (fun y s _ hok hw hb => hQ.wT x y s hok hw hb) ent_pop11 hw2 (hL.mv hm2) hx.1 hz (hQ.eN x) (hQ.eT x) (pop11_g hM hE hi x2 x0 x3 ((hT.mv hm2).less (by omega)) (fun k hk w2 h1 h2 => ih k (by omega) w2 (hm2.trans h1) h2)) (hQ.sN x) (fun y s _ => hQ.sT x y s)).then hM (hM.jmade tu hj)
    clear hT hj hm hm2 ih x0 x1 x2 x3 lF
    have hg : M.Then 63 #[.int .u64 x, .int .i64 (hIx x), ptr b, ptr b1, ptr b2] w' (fun v w'' => M.I r s w'' ∧ M.Code n (qN x) v w'') := by
      have hz' : (hIx x == -1) = false := by simp [hz]
      clear hi hQ hw hw2 hC
      generalize hIx x = y at *
      unfold Gm.Then Ent at *
      go_enter Try.func63, Try.ntmps63
      go_wp2_with fail
      refine ht.mono ?_
      rintro e w2 ⟨v, rfl, hq, t2⟩
      go_wp2
      go_ret
      exact ⟨v, rfl, hq, fr.trans t2⟩
    refine hg.mono fun v w'' hh => ?_
    show M.I r (if hIx x = -1 then T (-1) false s else (qN x, s)).2 w'' ∧ M.Code n (if hIx x = -1 then T (-1) false s else (qN x, s)).1 v w''
    rw [if_neg hz]
    exact hh

theorem pop_g (A : M.Ar p c) (hM : M.Ok) (hC : Gm.ChOk A h lk V U Y) (hQ : Gm.PopQ A h lk qR qN qT E T) : ∀ m (f : Nat) (cap : Array Value) (w : World), Ent f → M.OkW w → M.Lk w lf lcap lk → M.Cont m f cap w (fun x s => PopD V x ∧ E x.1 x.2 s) (fun x => #[.int .i64 x.1, .bool x.2]) (fun x => T x.1 x.2) →
    M.Makes m qR 39 #[chV p h lf lcap, .func (.func f) #[] cap] w := by
  intro m
  induction m using Nat.strongRecOn with
  | _ m ih =>
    intro f cap w hE hw hL hT
    have hmf := hmf_run
    have y2 := fun (a : Addr) (f : FuncId) (c : Array Value) (w : World) => run_store Try.prog w a (.func (.func f) #[] c) .plain rfl
    obtain ⟨W2, hW2⟩ : ∃ W2, (((w.alloc (.cells (chC p h lf lcap) 27)).alloc (.cells #[.func (.func f) #[] cap] 91)).alloc (.cells (chC p h lf lcap) 93)) = W2 := ⟨_, rfl⟩
    have k2 : Turns [] w W2 := by rw [← hW2]; exact (((Turns.refl _ _).alloc _).alloc _).alloc _
    have l0 : Lies W2 w.heap.size 27 (chC p h lf lcap) := by rw [← hW2]; exact ((Lies.new _ _ _).alloc _).alloc _
    have l1 : Lies W2 (w.heap.size + 1) 91 #[.func (.func f) #[] cap] := by rw [← hW2]; exact (Lies.new_of _ _ (by simp)).alloc _
    have l2 : Lies W2 (w.heap.size + 1 + 1) 93 (chC p h lf lcap) := by rw [← hW2]; exact Lies.new_of _ _ (by simp)
    have hm2 := hw.mv hM k2
    have hR := read_g (m := m) (h := h) (lf := lf) (lcap := lcap) A hM (V := fun x s => V x ∧ (hIx x = -1 → E (-1) false s)) (fun s hok hw => ⟨hC.hd _ hok, hQ.wR s hok hw⟩) ent_pop1 (hw.made hM k2) hQ.eR (pop1_g A hM hC hQ hE (hL.mv hm2) (hw.box hM k2 (by omega) l1 (by decide)) (hw.box hM k2 (by omega) l2 (by decide)) (hw.box hM k2 (by omega) l0 (by decide)) (hT.mv hm2)
      (fun n hn w' h1 h2 => ih n hn f cap w' hE h2 ((hL.mv hm2).mv h1) (((hT.mv hm2).mv h1).less (by omega)))) (fun s => by rw [hQ.sR])
    obtain ⟨c0, c1, c2⟩ := ch_cells l2
    clear hT hL ih l0 l1 l2 hm2 hw hE
    unfold Gm.Makes at *
    go_enter Try.func39, Try.ntmps39
    go_wp2_with fail
    clear hW2
    refine hR.mono ?_
    rintro e w4 ⟨v, rfl, hc4, t4⟩
    go_wp2
    go_ret
    exact ⟨v, rfl, hc4, k2.trans t4⟩
end

end Go.Proofs.Ythjbmaeoogophaa

/- The stack's code: Push. -/
namespace Go.Proofs.Ythjbmaeoogophaa
open Go.RowKit
set_option maxRecDepth 100000

section
variable {St Pr : Type} {M : Gm St Pr} {p c : Nat}

theorem canhave_g {l : List Int} {k h i : Int} {lf : FuncId} {lcap : Array Value} {lk : Int → Int} {w : World} (hM : M.Ok) (hw : M.OkW w) (hL : M.Lk w lf lcap lk) (ha : Arena w p c l k) (hi : Ix i) (h1 : hasA l h = true) (h2 : hasA l (lk i) = true) :
    Calls Try.prog 66 #[chV p h lf lcap, .int .i64 i] w fun e w' => e = .returned (.bool true) ∧ Turns [] w w' := by
  obtain ⟨W2, hW2⟩ : ∃ W2, w.alloc (.cells (chC p h lf lcap) 93) = W2 := ⟨_, rfl⟩
  have k2 : Turns [] w W2 := by rw [← hW2]; exact (Turns.refl _ _).alloc _
  have l0 : Lies W2 w.heap.size 93 (chC p h lf lcap) := by rw [← hW2]; exact Lies.new _ _ _
  have cL := fun W (hW : Turns [] w W) => hL.run W i (hw.mv hM hW) hi
  have eL := hL.ent
  have hmost := ha.most
  have hwf : ∀ x, hasA l x = true → (Lit.int .i64 x).wf = true := fun x hx => by
    rw [hasA_iff] at hx
    exact WalkArith.wf_i64 (by omega)
  have hwf1 := hwf h h1
  have hwf2 := hwf _ h2
  have cA := fun A W (hW : Turns [] w W) (hr : Row W .i64 A 2 [h, lk i]) => arecells_g A [h, lk i] 2 2 (ha.turn hW (by simp) (by simp)) hr
  have hall : [h, lk i].all (hasA l) = true := by simp [h1, h2]
  rw [hall] at cA
  have cN := fun W => canname_g i (by unfold Ix at hi; omega) W
  have hcn : cnB i = true := by unfold Ix at hi; simp [cnB]; omega
  rw [hcn] at cN
  have hne : (i != -1) = true := by unfold Ix at hi; simp; omega
  clear hL hw hM ha hi hcn hall hwf hmost
  obtain ⟨c0, c1, c2⟩ := ch_cells l0
  have g0 := l0.lt
  unfold Ent at *
  go_enter Try.func66, Try.ntmps66
  go_upto_region 1 with (fail)
  clear hW2 l0
  refine wp_region_held_drew (S := fun W' => W'.cell? ⟨w.heap.size, 0, none⟩ = some (ptr p) ∧ W'.cell? ⟨w.heap.size, 1, none⟩ = some (.int .i64 h) ∧ W'.cell? ⟨w.heap.size, 2, none⟩ = some (.func (.func lf) #[] lcap)) (by kernel_rfl) ⟨c0, c1, c2⟩ (fun hHeld => ?_)
  refine wpAnyH_take (i := 0) (oi := { dst := some 5, op := Go.Op.move (Go.Operand.tmp 1), type := 3, pos := "chain.go:74", after := #[], guard := none }) (v := ?_) rfl (by kernel_rfl) (by kernel_rfl) (by kernel_rfl) (fun _ _ _ h => h) (Or.inl ⟨by rfl, ?_⟩) hHeld ?_
  rotate_left
  · intro w hSw; obtain ⟨hS0, hS1, hS2⟩ := hSw; go_simp; try with_reducible rfl
  rotate_left
  try simp only [Act.put, List.setIfInBounds_toArray, List.set_cons_zero, List.set_cons_succ]
  refine wpAnyH_take (i := 1) (oi := { dst := some 6, op := Go.Op.binOp Go.BinOp.neq 3 (Go.Operand.tmp 5) (Go.Operand.const (Go.Value.int Go.IntKind.i64 (-1))) 3, type := 4, pos := "chain.go:74", after := #[{ on := 0, ground := Go.Ground.data }], guard := none }) (v := ?_) rfl (by kernel_rfl) (by kernel_rfl) (by kernel_rfl) (fun _ _ _ h => h) (Or.inl ⟨by rfl, ?_⟩) hHeld ?_
  rotate_left
  · intro w hSw; obtain ⟨hS0, hS1, hS2⟩ := hSw; go_simp; try with_reducible rfl
  rotate_left
  try simp only [Act.put, List.setIfInBounds_toArray, List.set_cons_zero, List.set_cons_succ]
  refine wpAnyH_take (i := 2) (oi := { dst := some 7, op := Go.Op.move (Go.Operand.tmp 6), type := 4, pos := "chain.go:74", after := #[{ on := 1, ground := Go.Ground.data }], guard := none }) (v := ?_) rfl (by kernel_rfl) (by kernel_rfl) (by kernel_rfl) (fun _ _ _ h => h) (Or.inl ⟨by rfl, ?_⟩) hHeld ?_
  rotate_left
  · intro w hSw; obtain ⟨hS0, hS1, hS2⟩ := hSw; go_simp; try with_reducible rfl
  rotate_left
  try simp only [Act.put, List.setIfInBounds_toArray, List.set_cons_zero, List.set_cons_succ]
  refine wpAnyH_take (i := 3) (oi := { dst := some 8, op := Go.Op.move (Go.Operand.tmp 1), type := 3, pos := "chain.go:74", after := #[{ on := 2, ground := Go.Ground.guard }], guard := some (2, true) }) (v := ?_) rfl (by kernel_rfl) (by kernel_rfl) (by kernel_rfl) (fun _ _ _ h => h) (Or.inl ⟨by rfl, ?_⟩) hHeld ?_
  rotate_left
  · intro w hSw; obtain ⟨hS0, hS1, hS2⟩ := hSw; go_simp; try with_reducible rfl
  rotate_left
  try simp only [Act.put, List.setIfInBounds_toArray, List.set_cons_zero, List.set_cons_succ]
  refine wpAnyH_ready (rs := [4]) (by kernel_rfl) (by simp) ?_
  refine AllReadyH.cons (o := { dst := some 9, op := Go.Op.call { callee := Go.Callee.value (Go.Operand.func 94), args := #[Go.Operand.tmp 8], argTypes := #[3] }, type := 4, pos := "chain.go:74", after := #[{ on := 3, ground := Go.Ground.data }, { on := 2, ground := Go.Ground.chain }, { on := 2, ground := Go.Ground.guard }], guard := some (2, true) }) rfl (fun K hK => ?_) AllReadyH.nil
  go_simp
  refine (cN (W2.drew)).mono ?_
  rintro e w4 ⟨rfl, t4⟩
  have k4 := k2.drew.trans t4
  have t4' : Turns [] W2 w4 := ((Turns.refl [] W2).drew).trans t4
  have u0 := (t4'.cell (p := ⟨w.heap.size, 0, none⟩) g0 (by simp)).trans c0
  have u1 := (t4'.cell (p := ⟨w.heap.size, 1, none⟩) g0 (by simp)).trans c1
  have u2 := (t4'.cell (p := ⟨w.heap.size, 2, none⟩) g0 (by simp)).trans c2
  go_wp2_with fail
  refine hK.out _ _ ⟨u0, u1, u2⟩ (fun hHeld => ?_)
  clear hK K
  try simp only [Act.put, List.setIfInBounds_toArray, List.set_cons_zero, List.set_cons_succ]
  refine wpAnyH_take (i := 5) (oi := { dst := some 10, op := Go.Op.pick (Go.Operand.tmp 7) (Go.Operand.tmp 9) (Go.Operand.const (Go.Value.bool false)), type := 4, pos := "chain.go:74", after := #[{ on := 2, ground := Go.Ground.data }, { on := 4, ground := Go.Ground.data }], guard := none }) (v := ?_) rfl (by kernel_rfl) (by kernel_rfl) (by kernel_rfl) (fun _ _ _ h => h) (Or.inl ⟨by rfl, ?_⟩) hHeld ?_
  rotate_left
  · intro w hSw; obtain ⟨hS0, hS1, hS2⟩ := hSw; go_simp; try with_reducible rfl
  rotate_left
  try simp only [Act.put, List.setIfInBounds_toArray, List.set_cons_zero, List.set_cons_succ]
  refine wpAnyH_take (i := 6) (oi := { dst := some 11, op := Go.Op.move (Go.Operand.tmp 10), type := 4, pos := "chain.go:74", after := #[{ on := 5, ground := Go.Ground.data }, { on := 4, ground := Go.Ground.chain }], guard := none }) (v := ?_) rfl (by kernel_rfl) (by kernel_rfl) (by kernel_rfl) (fun _ _ _ h => h) (Or.inl ⟨by rfl, ?_⟩) hHeld ?_
  rotate_left
  · intro w hSw; obtain ⟨hS0, hS1, hS2⟩ := hSw; go_simp; try with_reducible rfl
  rotate_left
  try simp only [Act.put, List.setIfInBounds_toArray, List.set_cons_zero, List.set_cons_succ]
  refine wpAnyH_take (i := 7) (oi := { dst := some 12, op := Go.Op.fieldAddr 93 (Go.Operand.tmp 2) 0, type := 0, pos := "chain.go:74", after := #[{ on := 6, ground := Go.Ground.guard }], guard := some (6, true) }) (v := ?_) rfl (by kernel_rfl) (by kernel_rfl) (by kernel_rfl) (fun _ _ _ h => h) (Or.inl ⟨by rfl, ?_⟩) hHeld ?_
  rotate_left
  · intro w hSw; obtain ⟨hS0, hS1, hS2⟩ := hSw; go_simp; try with_reducible rfl
  rotate_left
  try simp only [Act.put, List.setIfInBounds_toArray, List.set_cons_zero, List.set_cons_succ]
  refine wpAnyH_take (i := 8) (oi := { dst := some 13, op := Go.Op.load 24 (Go.Operand.tmp 12), type := 24, pos := "chain.go:74", after := #[{ on := 7, ground := Go.Ground.data }, { on := 6, ground := Go.Ground.guard }], guard := some (6, true) }) (v := ?_) rfl (by kernel_rfl) (by kernel_rfl) (by kernel_rfl) (fun _ _ _ h => h) (Or.inl ⟨by rfl, ?_⟩) hHeld ?_
  rotate_left
  · intro w hSw; obtain ⟨hS0, hS1, hS2⟩ := hSw; go_simp; try with_reducible rfl
  rotate_left
  try simp only [Act.put, List.setIfInBounds_toArray, List.set_cons_zero, List.set_cons_succ]
  refine wpAnyH_take (i := 9) (oi := { dst := some 14, op := Go.Op.fieldAddr 93 (Go.Operand.tmp 2) 1, type := 0, pos := "chain.go:74", after := #[{ on := 6, ground := Go.Ground.guard }], guard := some (6, true) }) (v := ?_) rfl (by kernel_rfl) (by kernel_rfl) (by kernel_rfl) (fun _ _ _ h => h) (Or.inl ⟨by rfl, ?_⟩) hHeld ?_
  rotate_left
  · intro w hSw; obtain ⟨hS0, hS1, hS2⟩ := hSw; go_simp; try with_reducible rfl
  rotate_left
  try simp only [Act.put, List.setIfInBounds_toArray, List.set_cons_zero, List.set_cons_succ]
  refine wpAnyH_take (i := 10) (oi := { dst := some 15, op := Go.Op.load 3 (Go.Operand.tmp 14), type := 3, pos := "chain.go:74", after := #[{ on := 9, ground := Go.Ground.data }, { on := 6, ground := Go.Ground.guard }], guard := some (6, true) }) (v := ?_) rfl (by kernel_rfl) (by kernel_rfl) (by kernel_rfl) (fun _ _ _ h => h) (Or.inl ⟨by rfl, ?_⟩) hHeld ?_
  rotate_left
  · intro w hSw; obtain ⟨hS0, hS1, hS2⟩ := hSw; go_simp; try with_reducible rfl
  rotate_left
  try simp only [Act.put, List.setIfInBounds_toArray, List.set_cons_zero, List.set_cons_succ]
  refine wpAnyH_take (i := 11) (oi := { dst := some 16, op := Go.Op.fieldAddr 93 (Go.Operand.tmp 2) 2, type := 0, pos := "chain.go:74", after := #[{ on := 6, ground := Go.Ground.guard }], guard := some (6, true) }) (v := ?_) rfl (by kernel_rfl) (by kernel_rfl) (by kernel_rfl) (fun _ _ _ h => h) (Or.inl ⟨by rfl, ?_⟩) hHeld ?_
  rotate_left
  · intro w hSw; obtain ⟨hS0, hS1, hS2⟩ := hSw; go_simp; try with_reducible rfl
  rotate_left
  try simp only [Act.put, List.setIfInBounds_toArray, List.set_cons_zero, List.set_cons_succ]
  refine wpAnyH_take (i := 12) (oi := { dst := some 17, op := Go.Op.load 25 (Go.Operand.tmp 16), type := 25, pos := "chain.go:74", after := #[{ on := 11, ground := Go.Ground.data }, { on := 6, ground := Go.Ground.guard }], guard := some (6, true) }) (v := ?_) rfl (by kernel_rfl) (by kernel_rfl) (by kernel_rfl) (fun _ _ _ h => h) (Or.inl ⟨by rfl, ?_⟩) hHeld ?_
  rotate_left
  · intro w hSw; obtain ⟨hS0, hS1, hS2⟩ := hSw; go_simp; try with_reducible rfl
  rotate_left
  try simp only [Act.put, List.setIfInBounds_toArray, List.set_cons_zero, List.set_cons_succ]
  refine wpAnyH_take (i := 13) (oi := { dst := some 18, op := Go.Op.move (Go.Operand.tmp 1), type := 3, pos := "chain.go:74", after := #[{ on := 6, ground := Go.Ground.guard }], guard := some (6, true) }) (v := ?_) rfl (by kernel_rfl) (by kernel_rfl) (by kernel_rfl) (fun _ _ _ h => h) (Or.inl ⟨by rfl, ?_⟩) hHeld ?_
  rotate_left
  · intro w hSw; obtain ⟨hS0, hS1, hS2⟩ := hSw; go_simp; try with_reducible rfl
  rotate_left
  try simp only [Act.put, List.setIfInBounds_toArray, List.set_cons_zero, List.set_cons_succ]
  refine wpAnyH_ready (rs := [14]) (by kernel_rfl) (by simp) ?_
  refine AllReadyH.cons (o := { dst := some 19, op := Go.Op.call { callee := Go.Callee.value (Go.Operand.tmp 17), args := #[Go.Operand.tmp 18], argTypes := #[3] }, type := 3, pos := "chain.go:74", after := #[{ on := 12, ground := Go.Ground.data }, { on := 13, ground := Go.Ground.data }, { on := 6, ground := Go.Ground.chain }, { on := 6, ground := Go.Ground.guard }], guard := some (6, true) }) rfl (fun K hK => ?_) AllReadyH.nil
  go_simp
  refine (cL _ k4).mono ?_
  rintro e w5 ⟨rfl, t5⟩
  have k5 := k4.trans t5
  have t5' := t4'.trans t5
  have v0 := (t5'.cell (p := ⟨w.heap.size, 0, none⟩) g0 (by simp)).trans c0
  have v1 := (t5'.cell (p := ⟨w.heap.size, 1, none⟩) g0 (by simp)).trans c1
  have v2 := (t5'.cell (p := ⟨w.heap.size, 2, none⟩) g0 (by simp)).trans c2
  go_wp2_with fail
  refine hK.out _ _ ⟨v0, v1, v2⟩ (fun hHeld => ?_)
  clear hK K
  try simp only [Act.put, List.setIfInBounds_toArray, List.set_cons_zero, List.set_cons_succ]
  refine wpAnyH_ready (rs := [15]) (by kernel_rfl) (by simp) ?_
  refine AllReadyH.cons (o := { dst := some 20, op := Go.Op.buildSlice 31 2 #[(0, Go.Operand.tmp 15), (1, Go.Operand.tmp 19)], type := 31, pos := "chain.go:74", after := #[{ on := 10, ground := Go.Ground.data }, { on := 14, ground := Go.Ground.data }, { on := 6, ground := Go.Ground.guard }], guard := some (6, true) }) rfl (fun K hK => ?_) AllReadyH.nil
  go_simp
  have t6 : Turns [] w5 (w5.alloc (.cells #[.int .i64 h, .int .i64 (lk i)] 3)) := (Turns.refl [] _).alloc _
  have k6 := k5.trans t6
  have t6' := t5'.trans t6
  have z0 := (t6'.cell (p := ⟨w.heap.size, 0, none⟩) g0 (by simp)).trans c0
  have z1 := (t6'.cell (p := ⟨w.heap.size, 1, none⟩) g0 (by simp)).trans c1
  have z2 := (t6'.cell (p := ⟨w.heap.size, 2, none⟩) g0 (by simp)).trans c2
  have cA := cA _ _ k6 (Row.two w5 h (lk i) hwf1 hwf2)
  refine hK.out _ _ ⟨z0, z1, z2⟩ (fun hHeld => ?_)
  clear hK K
  try simp only [Act.put, List.setIfInBounds_toArray, List.set_cons_zero, List.set_cons_succ]
  refine wpAnyH_ready (rs := [16]) (by kernel_rfl) (by simp) ?_
  refine AllReadyH.cons (o := { dst := some 21, op := Go.Op.call { callee := Go.Callee.value (Go.Operand.func 95), args := #[Go.Operand.tmp 13, Go.Operand.tmp 20], argTypes := #[24, 31] }, type := 4, pos := "chain.go:74", after := #[{ on := 8, ground := Go.Ground.data }, { on := 15, ground := Go.Ground.data }, { on := 14, ground := Go.Ground.chain }, { on := 6, ground := Go.Ground.guard }], guard := some (6, true) }) rfl (fun K hK => ?_) AllReadyH.nil
  go_simp
  refine cA.mono ?_
  rintro e w7 ⟨rfl, rfl⟩
  go_wp2_with fail
  refine hK.out _ _ ⟨z0, z1, z2⟩ (fun hHeld => ?_)
  clear hK K
  try simp only [Act.put, List.setIfInBounds_toArray, List.set_cons_zero, List.set_cons_succ]
  refine wpAnyH_take (i := 17) (oi := { dst := some 22, op := Go.Op.pick (Go.Operand.tmp 11) (Go.Operand.tmp 21) (Go.Operand.const (Go.Value.bool false)), type := 4, pos := "chain.go:74", after := #[{ on := 6, ground := Go.Ground.data }, { on := 16, ground := Go.Ground.data }], guard := none }) (v := ?_) rfl (by kernel_rfl) (by kernel_rfl) (by kernel_rfl) (fun _ _ _ h => h) (Or.inl ⟨by rfl, ?_⟩) hHeld ?_
  rotate_left
  · intro w hSw; obtain ⟨hS0, hS1, hS2⟩ := hSw; go_simp; try with_reducible rfl
  rotate_left
  try simp only [Act.put, List.setIfInBounds_toArray, List.set_cons_zero, List.set_cons_succ]
  refine wpAnyH_take (i := 18) (oi := { dst := some 4, op := Go.Op.assign (Go.Operand.tmp 22), type := 4, pos := "chain.go:74", after := #[{ on := 17, ground := Go.Ground.data }, { on := 16, ground := Go.Ground.chain }, { on := 0, ground := Go.Ground.phase }, { on := 1, ground := Go.Ground.phase }, { on := 2, ground := Go.Ground.phase }, { on := 3, ground := Go.Ground.phase }, { on := 4, ground := Go.Ground.phase }, { on := 5, ground := Go.Ground.phase }, { on := 6, ground := Go.Ground.phase }, { on := 7, ground := Go.Ground.phase }, { on := 8, ground := Go.Ground.phase }, { on := 9, ground := Go.Ground.phase }, { on := 10, ground := Go.Ground.phase }, { on := 11, ground := Go.Ground.phase }, { on := 12, ground := Go.Ground.phase }, { on := 13, ground := Go.Ground.phase }, { on := 14, ground := Go.Ground.phase }, { on := 15, ground := Go.Ground.phase }, { on := 16, ground := Go.Ground.phase }, { on := 17, ground := Go.Ground.phase }], guard := none }) (v := ?_) rfl (by kernel_rfl) (by kernel_rfl) (by kernel_rfl) (fun _ _ _ h => h) (Or.inl ⟨by rfl, ?_⟩) hHeld ?_
  rotate_left
  · intro w hSw; obtain ⟨hS0, hS1, hS2⟩ := hSw; go_simp; try with_reducible rfl
  rotate_left
  try simp only [Act.put, List.setIfInBounds_toArray, List.set_cons_zero, List.set_cons_succ]
  refine wpAnyH_done (by kernel_rfl) ?_ _
  go_wp2
  go_ret
  exact ⟨rfl, k6⟩

/-- what a Push does, step by step: it is to read the head, to write the link, to turn the head. -/
structure Gm.PushQ (A : M.Ar p c) (h : Int) (lk : Int → Int) (i : Int) (qR : Pr) (qS qT : Int → Pr) (E : St → Prop) (T : St → Pr × St) : Prop where
  eR : M.ended qR = false
  eS : ∀ o, M.ended (qS o) = false
  eT : ∀ o, M.ended (qT o) = false
  sR : ∀ s, M.step qR s = (qS (getA (A.l s) h), A.put s (A.l s) (moreA (A.l s) h (A.k s)))
  sS : ∀ o s, M.step (qS o) s = (qT o, A.put s (setA (A.l s) (lk i) (hIx o + 1)) (moreA (A.l s) (lk i) (A.k s)))
  sT : ∀ o s, M.step (qT o) s = if casB (A.l s) h o = true then T (A.put s (casA (A.l s) h o (newH o i)) (moreA (A.l s) h (A.k s))) else (qR, A.put s (casA (A.l s) h o (newH o i)) (moreA (A.l s) h (A.k s)))
  /-- what then may ask of the state. -/
  wT : ∀ o s, A.ok (A.l s) → M.W (qT o) s → casB (A.l s) h o = true → E (A.put s (casA (A.l s) h o (newH o i)) (moreA (A.l s) h (A.k s)))

variable {m f b b1 b2 b3 : Nat} {h old i : Int} {lf : FuncId} {lcap cap : Array Value} {lk : Int → Int} {w : World} {qR : Pr} {qS qT : Int → Pr} {T : St → Pr × St} {V U Y : Int → Prop} {E : St → Prop}

/-- where a Push may be begun. -/
def Room (w : World) (p c : Nat) (h : Int) (j : Int) : Prop := ∃ l k, Arena w p c l k ∧ hasA l h = true ∧ hasA l j = true
theorem Gm.ChOk.begin {A : M.Ar p c} (hC : Gm.ChOk A h lk V U Y) (hY : Y i) {r : Nat} {s : St} (hi : M.I r s w) : Room w p c h (lk i) := ⟨_, _, A.ar _ _ _ hi, hC.room _ _ (A.okI _ _ _ hi) hY⟩

theorem push11_g (A : M.Ar p c) (hM : M.Ok) (hC : Gm.ChOk A h lk V U Y) (hY : Y i) (hE : Ent f) (x0 : M.Bx w b 27 (chC p h lf lcap)) (x1 : M.Bx w b1 3 #[.int .i64 i]) (x2 : M.Bx w b2 37 #[.func (.func f) #[] cap])
    (hT : M.Cont m f cap w (fun (_ : Unit) s => E s) (fun _ => #[]) (fun _ => T))
    (ih : ∀ n, n < m → ∀ w', Mv M.B (M.L ++ M.X) M.ws w w' → M.OkW w' → Room w' p c h (lk i) → M.Makes n qR 41 #[chV p h lf lcap, .int .i64 i, .func (.func f) #[] cap] w') :
    M.Cont m 69 #[ptr b, ptr b1, ptr b2] w (fun b s => b = true → E s) (fun b => #[.bool b]) (fun b s => if b = true then T s else (qR, s)) := by
  intro n hn x w' s r hm hj hd
  have l0 := (x0.mv hm).l
  have c0 : w'.cell? ⟨b, 0, none⟩ = some (ptr p) := l0.cell 0
  have c1 : w'.cell? ⟨b, 1, none⟩ = some (.int .i64 h) := l0.cell 1
  have c2 : w'.cell? ⟨b, 2, none⟩ = some (.func (.func lf) #[] lcap) := l0.cell 2
  have d0 := (x1.mv hm).cell
  have e0 := (x2.mv hm).cell
  cases x with
  | false =>
    have ht := (ih n hn w' hm (hM.okj hj) (hC.begin hY (hM.ji _ _ _ hj))).then hM hj
    clear hT hj hm ih x0 x1 x2 l0
    show M.Then _ #[.bool false, ptr b, ptr b1, ptr b2] w' (fun v w'' => M.I r s w'' ∧ M.Code n qR v w'')
    unfold Gm.Then Ent at *
    go_enter Try.func69, Try.ntmps69
    go_wp2_with fail
    refine ht.mono ?_
    rintro e w2 ⟨v, rfl, hq, t2⟩
    go_wp2
    go_ret
    exact ⟨v, rfl, hq, t2⟩
  | true =>
    have ht : M.Then f (#[] ++ cap) w' fun v w'' => M.I r (T s).2 w'' ∧ M.Code n (T s).1 v w'' := hT n hn () w' s r hm hj (hd rfl)
    clear hT hj hm ih x0 x1 x2 l0
    show M.Then _ #[.bool true, ptr b, ptr b1, ptr b2] w' (fun v w'' => M.I r (T s).2 w'' ∧ M.Code n (T s).1 v w'')
    generalize T s = R at *
    simp only [Array.empty_append] at ht
    unfold Gm.Then Ent at *
    go_enter Try.func69, Try.ntmps69
    go_wp2_with fail
    refine ht.mono ?_
    rintro e w2 ⟨v, rfl, hq, t2⟩
    go_wp2
    go_ret
    exact ⟨v, rfl, hq, t2⟩

theorem push1_g (A : M.Ar p c) (hM : M.Ok) (hC : Gm.ChOk A h lk V U Y) (hY : Y i) (hQ : Gm.PushQ A h lk i qR qS qT E T) (hE : Ent f) (hL : M.Lk w lf lcap lk) (x0 : M.Bx w b 93 (chC p h lf lcap)) (x1 : M.Bx w b1 3 #[.int .i64 i]) (x2 : M.Bx w b2 27 (chC p h lf lcap)) (x3 : M.Bx w b3 37 #[.func (.func f) #[] cap])
    (hT : M.Cont m f cap w (fun (_ : Unit) s => E s) (fun _ => #[]) (fun _ => T))
    (ih : ∀ n, n < m → ∀ w', Mv M.B (M.L ++ M.X) M.ws w w' → M.OkW w' → Room w' p c h (lk i) → M.Makes n qR 41 #[chV p h lf lcap, .int .i64 i, .func (.func f) #[] cap] w') :
    M.Cont m 67 #[ptr b, ptr b1, ptr b2, ptr b3] w (fun x _ => N64 x ∧ V x) (fun x => #[.int .u64 x, .int .i64 (hIx x)]) (fun x s => (qS x, s)) := by
  intro n hn x w' s r hm hj hx
  have hw := hM.okj hj
  have x0 := x0.mv hm
  have x1 := x1.mv hm
  have x2 := x2.mv hm
  have x3 := x3.mv hm
  obtain ⟨c0, c1, c2⟩ := ch_cells x0.l
  have d0 := x1.cell
  have e0 := x3.cell
  have hmf := hmf_run
  have ht := (lay_g (m := n) (f := 69) (cap := #[ptr b2, ptr b1, ptr b3]) (T := fun bb s => if bb = true then T s else (qR, s)) A hM (fun l hl => hC.ly l x i hl hx.2 hY) (fun l hl => hC.tn l x i hl hx.1 hx.2 hY) (D := fun b s => b = true → E s) (fun s hok hw hb => hQ.wT x s hok hw hb) ent_push11 hw (hL.mv hm) hx.1 (hC.ix i hY) (hQ.eS x) (hQ.eT x) (push11_g A hM hC hY hE x2 x1 x3 ((hT.mv hm).less (by omega)) (fun k hk w2 h1 h2 h3 => ih k (by omega) w2 (hm.trans h1) h2 h3)) (hQ.sS x) (hQ.sT x)).then hM hj
  clear hT hj hm ih x0 x1 x2 x3 hQ hw
  show M.Then _ #[.int .u64 x, .int .i64 (hIx x), ptr b, ptr b1, ptr b2, ptr b3] w' (fun v w'' => M.I r s w'' ∧ M.Code n (qS x) v w'')
  generalize hIx x = y at *
  unfold Gm.Then Ent at *
  go_enter Try.func67, Try.ntmps67
  go_wp2_with fail
  refine ht.mono ?_
  rintro e w2 ⟨v, rfl, hq, t2⟩
  go_wp2
  go_ret
  exact ⟨v, rfl, hq, t2⟩

theorem push_g (A : M.Ar p c) (hM : M.Ok) (hC : Gm.ChOk A h lk V U Y) (hY : Y i) (hQ : Gm.PushQ A h lk i qR qS qT E T) : ∀ m (f : Nat) (cap : Array Value) (w : World), Ent f → M.OkW w → M.Lk w lf lcap lk → Room w p c h (lk i) → M.Cont m f cap w (fun (_ : Unit) s => E s) (fun _ => #[]) (fun _ => T) →
    M.Makes m qR 41 #[chV p h lf lcap, .int .i64 i, .func (.func f) #[] cap] w := by
  intro m
  induction m using Nat.strongRecOn with
  | _ m ih =>
    intro f cap w hE hw hL hRm hT
    have hmf := hmf_run
    have y2 := fun (a : Addr) (f : FuncId) (c : Array Value) (w : World) => run_store Try.prog w a (.func (.func f) #[] c) .plain rfl
    obtain ⟨W2, hW2⟩ : ∃ W2, ((((w.alloc (.cells (chC p h lf lcap) 27)).alloc (.cells #[.int .i64 i] 3)).alloc (.cells #[.func (.func f) #[] cap] 37)).alloc (.cells (chC p h lf lcap) 93)) = W2 := ⟨_, rfl⟩
    have k2 : Turns [] w W2 := by rw [← hW2]; exact ((((Turns.refl _ _).alloc _).alloc _).alloc _).alloc _
    have l0 : Lies W2 w.heap.size 27 (chC p h lf lcap) := by rw [← hW2]; exact (((Lies.new _ _ _).alloc _).alloc _).alloc _
    have l1 : Lies W2 (w.heap.size + 1) 3 #[.int .i64 i] := by rw [← hW2]; exact ((Lies.new_of _ _ (by simp)).alloc _).alloc _
    have l2 : Lies W2 (w.heap.size + 1 + 1) 37 #[.func (.func f) #[] cap] := by rw [← hW2]; exact (Lies.new_of _ _ (by simp)).alloc _
    have l3 : Lies W2 (w.heap.size + 1 + 1 + 1) 93 (chC p h lf lcap) := by rw [← hW2]; exact Lies.new_of _ _ (by simp)
    have hw2 := hw.made hM k2
    have hm2 := hw.mv hM k2
    have x0 := hw.box hM k2 (by omega) l0 (by decide)
    have x1 := hw.box hM k2 (by omega) l1 (by decide)
    have x2 := hw.box hM k2 (by omega) l2 (by decide)
    have x3 := hw.box hM k2 (by omega) l3 (by decide)
    have hR : ∀ W, Turns [] W2 W → M.Makes m qR 62 #[chV p h lf lcap, .func (.func 67) #[] #[ptr (w.heap.size + 1 + 1 + 1), ptr (w.heap.size + 1), ptr w.heap.size, ptr (w.heap.size + 1 + 1)]] W := fun W hW => by
      have h3 := hw2.mv hM hW
      exact read_g (V := fun x _ => V x) A hM (fun s hok _ => hC.hd _ hok) ent_push1 (hw2.made hM hW) hQ.eR (push1_g A hM hC hY hQ hE ((hL.mv hm2).mv h3) (x3.mv h3) (x1.mv h3) (x0.mv h3) (x2.mv h3) ((hT.mv hm2).mv h3)
        (fun n hn w' h1 h2 h4 => ih n hn f cap w' hE h2 (((hL.mv hm2).mv h3).mv h1) h4 ((((hT.mv hm2).mv h3).mv h1).less (by omega)))) hQ.sR
    obtain ⟨l, k, ha, g1, g2⟩ := hRm
    have cH := canhave_g hM hw2 (hL.mv hm2) (ha.turn k2 (by simp) (by simp)) (hC.ix i hY) g1 g2
    have d0 : W2.cell? ⟨w.heap.size + 1, 0, none⟩ = some (.int .i64 i) := l1.cell 0
    have gl1 := l1.lt
    have gl3 := l3.lt
    obtain ⟨c0, c1, c2⟩ := ch_cells l3
    clear hT hL ih l0 l1 l2 l3 hm2 hw hE x0 x1 x2 x3 hw2 ha
    unfold Gm.Makes at *
    go_enter Try.func41, Try.ntmps41
    go_wp2_with fail
    clear hW2
    refine cH.mono ?_
    rintro e w3 ⟨rfl, t3⟩
    have d1 := (t3.cell (p := ⟨w.heap.size + 1, 0, none⟩) gl1 (by simp)).trans d0
    have u0 := (t3.cell (p := ⟨w.heap.size + 1 + 1 + 1, 0, none⟩) gl3 (by simp)).trans c0
    have u1 := (t3.cell (p := ⟨w.heap.size + 1 + 1 + 1, 1, none⟩) gl3 (by simp)).trans c1
    have u2 := (t3.cell (p := ⟨w.heap.size + 1 + 1 + 1, 2, none⟩) gl3 (by simp)).trans c2
    have hR := hR _ t3
    go_wp2_with fail
    refine hR.mono ?_
    rintro e w4 ⟨v, rfl, hc4, t4⟩
    go_wp2
    go_ret
    exact ⟨v, rfl, hc4, (k2.trans t3).trans t4⟩
end

end Go.Proofs.Ythjbmaeoogophaa

/- Tasks: New, Step, Finish. -/
namespace Go.Proofs.Ythjbmaeoogophaa
open Go.RowKit

/-- a value that code has. -/
def IsCode (v : Value) : Prop := v = .nilFunc ∨ ∃ g cap, v = .func (.func g) #[] cap

theorem newtask_any (v : Value) (hv : IsCode v) (w : World) :
    Calls Try.prog 14 #[v] w fun e w' => e = .returned (.pointer (some ⟨w.heap.size, 0, none⟩)) ∧ w.alloc (.cells #[v, .int .i64 0] 89) = w' := by
  rcases hv with rfl | ⟨g, cap, rfl⟩
  all_goals
    go_enter Try.func14, Try.ntmps14
    go_wp2
    go_ret
    exact ⟨rfl, rfl⟩

section
variable {St Pr : Type} {M : Mc St Pr} {m : Nat} {q : Pr} {d t : Nat} {w : World}

theorem CodeAt.code {v : Value} (h : CodeAt M m q v w) : IsCode v := by
  rcases h.shape with ⟨_, h⟩ | ⟨_, h⟩
  · exact .inl h
  · exact .inr h

theorem TaskAt.made {v : Value} (h : CodeAt M m q v w) (hL : ∀ b, b ∈ M.LL → b < w.heap.size) (hB : M.B ≤ w.heap.size) : TaskAt M m q 0 w.heap.size (w.alloc (.cells #[v, .int .i64 0] 89)) := by
  refine ⟨⟨v, Lies.new _ _ _, h.moves (Moves.of_turns ((Turns.refl [] w).alloc _) (by simp))⟩, fun hm => ?_, hB⟩
  have := hL _ hm
  omega

theorem task_put {v : Value} {n : Int} {u : Value} {j : Nat} (h : Lies w t 89 #[v, .int .i64 n]) (L : List Nat) {B : Nat} (hB : B ≤ t) : Moves B L w (w.setCell ⟨t, j, none⟩ u) :=
  Moves.of_turns ((Turns.refl [t] w).setCell (.inl (by simp)) u) (fun b hb => by
    simp at hb
    subst hb
    exact .inr (.inr ⟨hB, _, _, task_loose, h⟩))

theorem step_any {r : Nat} {s : St} (hM : M.Ok) (h : TaskAt M (m + 1) q d t w) (hi : M.I (r + 1) s w) (hd : d < 4611686018427387904) :
    Calls Try.prog 43 #[.pointer (some ⟨t, 0, none⟩)] w fun e w' => e = .returned (.bool (M.ended (stepQ M q s))) ∧
      TaskAt M m (stepQ M q s) (stepD M q d) t w' ∧ M.I r (stepS M q s) w' ∧ Turns (t :: M.L) w w' ∧ Moves M.B M.LL w w' := by
  have c1 := ended_any h
  obtain ⟨v, h1, h2⟩ := h.at_
  rcases h2 with ⟨hq, rfl⟩ | ⟨hq, g, cap, rfl, hE, hs⟩
  · rw [hq] at c1
    have e1 : stepQ M q s = q := by simp [stepQ, hq]
    have e2 : stepD M q d = d := by simp [stepD, hq]
    have e3 : stepS M q s = s := by simp [stepS, hq]
    rw [e1, e2, e3, hq]
    clear e1 e2 e3
    have hh := Lib.hid (show TaskAt M m q d t w ∧ M.I r s w from ⟨h.less, hM.less _ _ _ hi⟩)
    clear h hi hq h1
    go_enter Try.func43, Try.ntmps43
    go_wp2_with fail
    refine c1.mono ?_
    rintro e w' ⟨rfl, rfl⟩
    go_wp2_with fail
    refine c1.mono ?_
    rintro e w' ⟨rfl, rfl⟩
    go_wp2
    go_ret
    exact ⟨rfl, hh.out.1, hh.out.2, Turns.refl _ _, Moves.refl _ _ _⟩
  · rw [hq] at c1
    have e1 : stepQ M q s = (M.step q s).1 := by simp [stepQ, hq]
    have e2 : stepD M q d = d + 1 := by simp [stepD, hq]
    have e3 : stepS M q s = (M.step q s).2 := by simp [stepS, hq]
    rw [e1, e2, e3]
    clear e1 e2 e3
    have c2 := hs w s r (Moves.refl _ _ _) hi
    have k0 := h1.cell 0
    have k1 := h1.cell 1
    simp at k0 k1
    have kl := h1.lt
    have HO := Lib.hid h.out
    have HB := Lib.hid h.base
    have HL : t ∉ M.L := fun hm => h.out (hM.sub _ hm)
    have HM := Lib.hid hM
    have H1 := Lib.hid h1
    clear hs hi h hM hq h1
    generalize (M.step q s).1 = q' at *
    generalize (M.step q s).2 = s' at *
    unfold Then Ent at *
    go_enter Try.func43, Try.ntmps43
    go_wp2_with fail
    refine c1.mono ?_
    rintro e w' ⟨rfl, rfl⟩
    go_wp2_with fail
    refine c2.mono ?_
    rintro e w1 ⟨v', rfl, ⟨hi1, hc1⟩, t1⟩
    have L1 := H1.out.turn t1 HL
    have d0 := L1.cell 0
    have d1 := L1.cell 1
    have f0 := L1.frozen 0
    have f1 := L1.frozen 1
    simp at d0 d1
    have M1 := Lib.hid (Moves.of_turns (B := M.B) (L := M.LL) t1 (fun b hb => .inl (HM.out.sub b hb)))
    have P1 := Lib.hid ((L1.set 0 v').set 1 (.int .i64 ((d + 1 : Nat) : Int)))
    have Q1 := Lib.hid (task_put (j := 0) (u := v') L1 M.LL HB.out)
    have Q2 := Lib.hid (task_put (j := 1) (u := .int .i64 ((d + 1 : Nat) : Int)) (v := v') (n := d) (by have := L1.set 0 v'; simpa using this) M.LL HB.out)
    have R1 := Lib.hid (task_put (j := 0) (u := v') L1 [] HB.out)
    have R2 := Lib.hid (task_put (j := 1) (u := .int .i64 ((d + 1 : Nat) : Int)) (v := v') (n := d) (by have := L1.set 0 v'; simpa using this) [] HB.out)
    have HT : TaskAt M m q' (d + 1) t ((w1.setCell ⟨t, 0, none⟩ v').setCell ⟨t, 1, none⟩ (.int .i64 ((d + 1 : Nat) : Int))) := ⟨⟨v', by have := P1.out; simpa using this, hc1.moves (Q1.out.trans Q2.out)⟩, HO.out, HB.out⟩
    have c3 := ended_any HT
    have HT := Lib.hid HT
    have HI := Lib.hid (HM.out.task _ _ _ _ (R1.out.trans R2.out) hi1)
    have HTT := Lib.hid (((t1.more (L' := t :: M.L) (fun b hb => .inl (by simp [hb]))).setCell (p := ⟨t, 0, none⟩) (.inl (by simp)) v').setCell (p := ⟨t, 1, none⟩) (.inl (by simp)) (.int .i64 ((d + 1 : Nat) : Int)))
    have HMM := Lib.hid ((M1.out.trans Q1.out).trans Q2.out)
    have HC := hc1.code
    rw [show (((d + 1 : Nat)) : Int) = (d : Int) + 1 by omega] at HT HI HTT HMM c3
    clear hc1 P1 Q1 Q2 R1 R2 M1 L1 hi1 H1 HM c1 c2
    have y1 := fun (a : Addr) (w : World) => run_store Try.prog w a .nilFunc .plain rfl
    have y2 := fun (a : Addr) (f : FuncId) (c : Array Value) (w : World) => run_store Try.prog w a (.func (.func f) #[] c) .plain rfl
    rcases HC with rfl | ⟨g', cap', rfl⟩
    all_goals
      go_wp2_with fail
      refine c3.mono ?_
      rintro e w' ⟨rfl, rfl⟩
      go_wp2
      go_ret
      exact ⟨rfl, HT.out, HI.out, HTT.out, HMM.out⟩
end

end Go.Proofs.Ythjbmaeoogophaa

/- Tasks over any machine: New, Ended, Steps, Step, Finish. -/
namespace Go.Proofs.Ythjbmaeoogophaa
open Go.RowKit

section
variable {St Pr : Type} (M : Gm St Pr)
/-- a task at block t, whose code does what q says; d steps were done. -/
structure Gm.Task (m : Nat) (q : Pr) (d : Nat) (t : Nat) (w : World) : Prop where
  at_ : ∃ v, Lies w t 89 #[v, .int .i64 d] ∧ M.Code m q v w
  out : t ∉ M.L
  base : M.B ≤ t
  row : ¬ Rw M.ws w t

variable {M}
theorem Gm.Task.less {m : Nat} {q : Pr} {d t : Nat} {w : World} (h : M.Task (m + 1) q d t w) : M.Task m q d t w := by
  obtain ⟨v, h1, h2⟩ := h.at_
  exact ⟨⟨v, h1, h2.less⟩, h.out, h.base, h.row⟩
theorem Gm.Task.down {m n : Nat} {q : Pr} {d t : Nat} {w : World} (h : M.Task (m + n) q d t w) : M.Task m q d t w := by
  induction n with
  | zero => exact h
  | succ n ih => exact ih h.less
theorem Gm.Task.to {m n : Nat} {q : Pr} {d t : Nat} {w : World} (h : M.Task n q d t w) (k : m ≤ n) : M.Task m q d t w := by
  rw [show n = m + (n - m) by omega] at h
  exact h.down
theorem Gm.Task.is {m : Nat} {q : Pr} {d t : Nat} {w : World} (h : M.Task m q d t w) : IsTask M.B w t := by
  obtain ⟨v, h1, _⟩ := h.at_
  exact ⟨h.base, _, _, task_loose, h1⟩
theorem Gm.Task.lt {m : Nat} {q : Pr} {d t : Nat} {w : World} (h : M.Task m q d t w) : t < w.heap.size := h.is.lt
theorem Gm.Task.keep {m : Nat} {q : Pr} {d t : Nat} {w w' : World} (h : M.Task m q d t w) (k : w'.heap[t]? = w.heap[t]?) (g : Mv M.B (M.L ++ M.X) M.ws w w') : M.Task m q d t w' := by
  obtain ⟨v, h1, h2⟩ := h.at_
  exact ⟨⟨v, k.trans h1, h2.mv g⟩, h.out, h.base, g.row h1.lt h.row⟩
theorem Gm.Task.made {m : Nat} {q : Pr} {v : Value} {w : World} (hM : M.Ok) (hw : M.OkW w) (h : M.Code m q v w) : M.Task m q 0 w.heap.size (w.alloc (.cells #[v, .int .i64 0] 89)) := by
  have k : Turns [] w (w.alloc (.cells #[v, .int .i64 0] 89)) := (Turns.refl _ _).alloc _
  refine ⟨⟨v, Lies.new _ _ _, h.mv (hw.mv hM k)⟩, fun hm => ?_, hw.base, fun q => ?_⟩
  · have := hw.lt _ hm
    omega
  · have := (hw.row _ (q.same fun x hx => k.cell (hw.cells hM x hx).1 (by simp))).2
    omega
theorem Gm.Code.is {m : Nat} {q : Pr} {v : Value} {w : World} (h : M.Code m q v w) : IsCode v := h.code

theorem ended_g {m : Nat} {q : Pr} {d t : Nat} {w : World} (h : M.Task m q d t w) :
    Calls Try.prog 25 #[ptr t] w fun e w' => e = .returned (.bool (M.ended q)) ∧ w' = w := by
  obtain ⟨v, h1, h2⟩ := h.at_
  have c0 := h1.cell 0
  simp at c0
  rcases h2.shape with ⟨hq, rfl⟩ | ⟨hq, g, cap, rfl⟩
  all_goals
    rw [hq]
    clear h h2 hq h1
    have e1 := eqn_nil
    have e2 := eqn_func
    go_enter Try.func25, Try.ntmps25
    go_wp2
    go_ret
    exact ⟨rfl, rfl⟩

theorem steps_g {m : Nat} {q : Pr} {d t : Nat} {w : World} (h : M.Task m q d t w) :
    Calls Try.prog 36 #[ptr t] w fun e w' => e = .returned (.int .i64 d) ∧ w' = w := by
  obtain ⟨v, h1, h2⟩ := h.at_
  have c0 := h1.cell 1
  simp at c0
  go_enter Try.func36, Try.ntmps36
  go_wp2
  go_ret
  exact ⟨rfl, rfl⟩

/-- behind a step, if there is one. -/
def Gm.sQ (M : Gm St Pr) (q : Pr) (s : St) : Pr := if M.ended q then q else (M.step q s).1
def Gm.sS (M : Gm St Pr) (q : Pr) (s : St) : St := if M.ended q then s else (M.step q s).2
def Gm.sD (M : Gm St Pr) (q : Pr) (d : Nat) : Nat := if M.ended q then d else d + 1

/-- a task's own writing. -/
theorem task_fr (hM : M.Ok) {w : World} (hw : M.OkW w) {t j : Nat} (ht : t ∉ M.L) (u : Value) : Fr (t :: M.L) M.ws w (w.setCell ⟨t, j, none⟩ u) :=
  Fr.of_turns ((Turns.refl [t] w).setCell (.inl (by simp)) u) (fun b hb => .inl (by simp at hb; simp [hb])) fun x hx => ⟨hw.lt _ (hM.cells x hx), by
    simp
    rintro rfl
    exact ht (hM.cells x hx)⟩
theorem task_mv (hM : M.Ok) {w : World} (hw : M.OkW w) {v : Value} {n : Int} {t j : Nat} (h : Lies w t 89 #[v, .int .i64 n]) (ht : t ∉ M.L) (hB : M.B ≤ t) (u : Value) : Mv M.B (M.L ++ M.X) M.ws w (w.setCell ⟨t, j, none⟩ u) :=
  Mv.of_turns ((Turns.refl [t] w).setCell (.inl (by simp)) u) (fun b hb => .inr (.inr (by
    simp at hb
    subst hb
    exact ⟨hB, _, _, task_loose, h⟩))) fun x hx => ⟨hw.lt _ (hM.cells x hx), by
    simp
    rintro rfl
    exact ht (hM.cells x hx)⟩
theorem task_i (hM : M.Ok) {w : World} {v : Value} {n : Int} {t j r : Nat} {s : St} (h : Lies w t 89 #[v, .int .i64 n]) (hB : M.B ≤ t) (u : Value) (hi : M.I r s w) : M.I r s (w.setCell ⟨t, j, none⟩ u) :=
  hM.task _ _ _ _ (Mv.of_turns ((Turns.refl [t] w).setCell (.inl (by simp)) u) (fun b hb => .inr (.inr (by
    simp at hb
    subst hb
    exact ⟨hB, _, _, task_loose, h⟩))) fun x hx => by cases hx) hi

variable {m d t : Nat} {q : Pr} {w : World}
set_option maxRecDepth 100000 in
theorem step_g {r : Nat} {s : St} (hM : M.Ok) (h : M.Task (m + 1) q d t w) (hi : M.I (r + 1) s w) (hW : M.ended q = false → M.W q s) (hd : d < 4611686018427387904) :
    Calls Try.prog 43 #[ptr t] w fun e w' => e = .returned (.bool (M.ended (M.sQ q s))) ∧
      M.Task m (M.sQ q s) (M.sD q d) t w' ∧ M.I r (M.sS q s) w' ∧ Fr (t :: M.L) M.ws w w' ∧ Mv M.B (M.L ++ M.X) M.ws w w' := by
  have c1 := ended_g h
  obtain ⟨v, h1, h2⟩ := h.at_
  rcases h2 with ⟨hq, rfl⟩ | ⟨hq, g, cap, rfl, hE, hs⟩
  · rw [hq] at c1
    have e1 : M.sQ q s = q := by simp [Gm.sQ, hq]
    have e2 : M.sD q d = d := by simp [Gm.sD, hq]
    have e3 : M.sS q s = s := by simp [Gm.sS, hq]
    rw [e1, e2, e3, hq]
    clear e1 e2 e3
    have hh := Lib.hid (show M.Task m q d t w ∧ M.I r s w from ⟨h.less, hM.less _ _ _ hi⟩)
    clear h hi hq h1 hW
    go_enter Try.func43, Try.ntmps43
    go_wp2_with fail
    refine c1.mono ?_
    rintro e w' ⟨rfl, rfl⟩
    go_wp2_with fail
    refine c1.mono ?_
    rintro e w' ⟨rfl, rfl⟩
    go_wp2
    go_ret
    exact ⟨rfl, hh.out.1, hh.out.2, Fr.refl _ _ _, Mv.refl _ _ _ _⟩
  · rw [hq] at c1
    have e1 : M.sQ q s = (M.step q s).1 := by simp [Gm.sQ, hq]
    have e2 : M.sD q d = d + 1 := by simp [Gm.sD, hq]
    have e3 : M.sS q s = (M.step q s).2 := by simp [Gm.sS, hq]
    rw [e1, e2, e3]
    clear e1 e2 e3
    have c2 := hs w s r (Mv.refl _ _ _ _) hi (hW hq)
    have k0 := h1.cell 0
    have k1 := h1.cell 1
    simp at k0 k1
    have kl := h1.lt
    have HO := Lib.hid h.out
    have HB := Lib.hid h.base
    have HR := Lib.hid h.row
    have HM := Lib.hid hM
    have H1 := Lib.hid h1
    clear hs hi h hM hq h1 hW
    generalize (M.step q s).1 = q' at *
    generalize (M.step q s).2 = s' at *
    unfold Gm.Then Ent at *
    go_enter Try.func43, Try.ntmps43
    go_wp2_with fail
    refine c1.mono ?_
    rintro e w' ⟨rfl, rfl⟩
    go_wp2_with fail
    refine c2.mono ?_
    rintro e w1 ⟨v', rfl, ⟨hi1, hc1⟩, t1⟩
    have L1 := t1.lies H1.out HO.out HR.out
    have d0 := L1.cell 0
    have d1 := L1.cell 1
    have f0 := L1.frozen 0
    have f1 := L1.frozen 1
    simp at d0 d1
    have okw1 := HM.out.okw _ _ _ hi1
    have LA : Lies (w1.setCell ⟨t, 0, none⟩ v') t 89 #[v', .int .i64 d] := by have := L1.set 0 v'; simpa using this
    have LB : Lies ((w1.setCell ⟨t, 0, none⟩ v').setCell ⟨t, 1, none⟩ (.int .i64 ((d + 1 : Nat) : Int))) t 89 #[v', .int .i64 ((d + 1 : Nat) : Int)] := by have := LA.set 1 (.int .i64 ((d + 1 : Nat) : Int)); simpa using this
    have iA := task_i (j := 0) HM.out L1 HB.out v' hi1
    have okw2 := HM.out.okw _ _ _ iA
    have mA := task_mv (j := 0) HM.out okw1 L1 HO.out HB.out v'
    have mB := task_mv (j := 1) HM.out okw2 LA HO.out HB.out (.int .i64 ((d + 1 : Nat) : Int))
    have fA := task_fr (j := 0) HM.out okw1 HO.out v'
    have fB := task_fr (j := 1) HM.out okw2 HO.out (.int .i64 ((d + 1 : Nat) : Int))
    have HT : M.Task m q' (d + 1) t ((w1.setCell ⟨t, 0, none⟩ v').setCell ⟨t, 1, none⟩ (.int .i64 ((d + 1 : Nat) : Int))) := ⟨⟨v', LB, hc1.mv (mA.trans mB)⟩, HO.out, HB.out, (mA.trans mB).row L1.lt (t1.row H1.out.lt HR.out)⟩
    have c3 := ended_g HT
    have HT := Lib.hid HT
    have HI := Lib.hid (task_i (j := 1) HM.out LA HB.out (.int .i64 ((d + 1 : Nat) : Int)) iA)
    have HTT := Lib.hid (((t1.more (L' := t :: M.L) (fun b hb => by simp [hb])).trans fA).trans fB)
    have HMM := Lib.hid ((t1.mv (B := M.B)).trans (mA.trans mB))
    have HC := hc1.code
    rw [show (((d + 1 : Nat)) : Int) = (d : Int) + 1 by omega] at HT HI HTT HMM c3
    clear hc1 LA LB iA mA mB fA fB okw1 okw2 L1 hi1 H1 HM c1 c2 t1
    have y1 := fun (a : Addr) (w : World) => run_store Try.prog w a .nilFunc .plain rfl
    have y2 := fun (a : Addr) (f : FuncId) (c : Array Value) (w : World) => run_store Try.prog w a (.func (.func f) #[] c) .plain rfl
    rcases HC with rfl | ⟨g', cap', rfl⟩
    all_goals
      go_wp2_with fail
      refine c3.mono ?_
      rintro e w' ⟨rfl, rfl⟩
      go_wp2
      go_ret
      exact ⟨rfl, HT.out, HI.out, HTT.out, HMM.out⟩

/-- behind so many steps, as long as there are any. -/
def Gm.runN (M : Gm St Pr) (q : Pr) (s : St) (d : Nat) : Nat → Pr × St × Nat
  | 0 => (q, s, d)
  | j + 1 => (M.sQ (M.runN q s d j).1 (M.runN q s d j).2.1, M.sS (M.runN q s d j).1 (M.runN q s d j).2.1, M.sD (M.runN q s d j).1 (M.runN q s d j).2.2)
theorem runN_end {q : Pr} {s : St} {d j : Nat} (h : M.ended (M.runN q s d j).1 = true) : ∀ i, M.runN q s d (j + i) = M.runN q s d j
  | 0 => rfl
  | i + 1 => by
    show (M.sQ (M.runN q s d (j + i)).1 (M.runN q s d (j + i)).2.1, M.sS (M.runN q s d (j + i)).1 (M.runN q s d (j + i)).2.1, M.sD (M.runN q s d (j + i)).1 (M.runN q s d (j + i)).2.2) = _
    rw [runN_end h i]
    simp [Gm.sQ, Gm.sS, Gm.sD, h]
theorem runN_dd {q : Pr} {s : St} {d : Nat} : ∀ j, (M.runN q s d j).2.2 ≤ d + j
  | 0 => Nat.le_refl _
  | j + 1 => by
    have := runN_dd (q := q) (s := s) (d := d) j
    show M.sD _ _ ≤ _
    unfold Gm.sD
    split <;> omega

/-- a task that is under way: j steps were done since. -/
structure Gm.Und (M : Gm St Pr) (m : Nat) (q : Pr) (s : St) (d t : Nat) (w : World) (j : Nat) (W : World) : Prop where
  tk : M.Task (m - j) (M.runN q s d j).1 (M.runN q s d j).2.2 t W
  inv : M.I (m - j) (M.runN q s d j).2.1 W
  fr : Fr (t :: M.L) M.ws w W
  mo : Mv M.B (M.L ++ M.X) M.ws w W
theorem Gm.Und.next {m : Nat} {q : Pr} {s : St} {d t j : Nat} {w W : World} (hM : M.Ok) (h : M.Und m q s d t w j W) (hj : j < m) (hW : M.ended (M.runN q s d j).1 = false → M.W (M.runN q s d j).1 (M.runN q s d j).2.1) (hd : d + m < 4611686018427387904) :
    Calls Try.prog 43 #[ptr t] W fun e w' => e = .returned (.bool (M.ended (M.runN q s d (j + 1)).1)) ∧ M.Und m q s d t w (j + 1) w' := by
  have h1 := h.tk
  have h2 := h.inv
  rw [show m - j = (m - (j + 1)) + 1 by omega] at h1 h2
  have := runN_dd (M := M) (q := q) (s := s) (d := d) j
  refine (step_g hM h1 h2 hW (by omega)).mono ?_
  rintro e w' ⟨he, a1, a2, a3, a4⟩
  exact ⟨he, a1, a2, h.fr.trans a3, h.mo.trans a4⟩

set_option maxRecDepth 100000 in
theorem finish_g {m : Nat} {q : Pr} {s : St} {d t : Nat} {w : World} (hM : M.Ok) (most : Nat) (hmost : most ≤ m) (h : M.Task m q d t w) (hi : M.I m s w) (hW : ∀ j, j < most → M.ended (M.runN q s d j).1 = false → M.W (M.runN q s d j).1 (M.runN q s d j).2.1) (hd : d + m < 4611686018427387904) :
    Calls Try.prog 18 #[ptr t, .int .i64 most] w fun e w' => e = .returned (.bool (M.ended (M.runN q s d most).1)) ∧
      M.Task (m - most) (M.runN q s d most).1 (M.runN q s d most).2.2 t w' ∧ M.I (m - most) (M.runN q s d most).2.1 w' ∧ Fr (t :: M.L) M.ws w w' ∧ Mv M.B (M.L ++ M.X) M.ws w w' := by
  have h0 : M.Und m q s d t w 0 w := ⟨h, hi, Fr.refl _ _ _, Mv.refl _ _ _ _⟩
  have downI : ∀ k n (W : World) s', M.I (n + k) s' W → M.I n s' W := fun k => by
    induction k with
    | zero => exact fun n W s' h => h
    | succ k ih => exact fun n W s' h => ih n W s' (hM.less _ _ _ h)
  clear h hi
  go_enter Try.func18, Try.ntmps18
  go_wp2_with fail
  go_loopw [6] (fun i wr => ∃ j : Nat, i = .int .i64 j ∧ j ≤ most ∧ M.Und m q s d t w j wr) (fun i _ => (most - intOf i).toNat)
  case atStart => exact ⟨0, rfl, by omega, h0⟩
  case round =>
    clear h0
    obtain ⟨j, rfl, hj, hU⟩ := hrel
    by_cases hlt : j < most
    · have c1 := hU.next hM (by omega) (hW j hlt) hd
      cases hb : M.ended (M.runN q s d (j + 1)).1 with
      | true =>
        rw [hb] at c1
        have e1 : M.runN q s d most = M.runN q s d (j + 1) := by
          have := runN_end hb (most - (j + 1))
          rwa [show j + 1 + (most - (j + 1)) = most by omega] at this
        have E1 := Lib.hid e1
        have HB := Lib.hid hb
        clear hU e1 hb
        go_wp2_with fail
        refine c1.mono ?_
        rintro e w1 ⟨rfl, hU⟩
        have c2 := ended_g hU.tk
        rw [HB.out] at c2
        have HU := Lib.hid (And.intro (hU.tk.to (m := m - most) (by omega)) (And.intro (downI (most - (j + 1)) (m - most) _ _ (by rw [show m - most + (most - (j + 1)) = m - (j + 1) by omega]; exact hU.inv)) (And.intro hU.fr hU.mo)))
        clear hU c1
        go_wp2_with fail
        refine c2.mono ?_
        rintro e w1 ⟨rfl, rfl⟩
        go_wp2
        go_ret
        rw [E1.out]
        exact ⟨ret_bool HB.out.symm, HU.out⟩
      | false =>
        rw [hb] at c1
        clear hU hb
        go_wp2_with fail
        refine c1.mono ?_
        rintro e w1 ⟨rfl, hU⟩
        go_wp2
        go_roundw
        case rel => exact ⟨j + 1, by go_num, by omega, hU⟩
        case measure => simp [intOf]; omega
    · obtain rfl : j = most := by omega
      have c2 := ended_g hU.tk
      have HU := Lib.hid (And.intro hU.tk (And.intro hU.inv (And.intro hU.fr hU.mo)))
      obtain ⟨bb, hbb⟩ : ∃ bb, M.ended (M.runN q s d j).1 = bb := ⟨_, rfl⟩
      rw [hbb] at c2
      have HB := Lib.hid hbb
      clear hU hbb
      go_wp2_with fail
      refine c2.mono ?_
      rintro e w1 ⟨rfl, rfl⟩
      go_wp2
      go_ret
      exact ⟨ret_bool HB.out.symm, HU.out⟩
end

end Go.Proofs.Ythjbmaeoogophaa

/- Tasks: Finish and Run. -/
namespace Go.Proofs.Ythjbmaeoogophaa
open Go.RowKit

section
variable {St Pr : Type} (M : Mc St Pr)
/-- behind so many steps, as long as there are any. -/
def runN (q : Pr) (s : St) (d : Nat) : Nat → Pr × St × Nat
  | 0 => (q, s, d)
  | j + 1 => let c := runN q s d j; (stepQ M c.1 c.2.1, stepS M c.1 c.2.1, stepD M c.1 c.2.2)
variable {M}
theorem runN_ended {q : Pr} {s : St} {d j : Nat} (h : M.ended (runN M q s d j).1 = true) : ∀ i, runN M q s d (j + i) = runN M q s d j
  | 0 => rfl
  | i + 1 => by
    show (stepQ M (runN M q s d (j + i)).1 (runN M q s d (j + i)).2.1, stepS M (runN M q s d (j + i)).1 (runN M q s d (j + i)).2.1, stepD M (runN M q s d (j + i)).1 (runN M q s d (j + i)).2.2) = _
    rw [runN_ended h i]
    simp [stepQ, stepS, stepD, h]
theorem runN_d {q : Pr} {s : St} {d : Nat} : ∀ j, (runN M q s d j).2.2 ≤ d + j
  | 0 => Nat.le_refl _
  | j + 1 => by
    have := runN_d (q := q) (s := s) (d := d) j
    show stepD M _ _ ≤ _
    unfold stepD
    split <;> omega

/-- a task that is under way: j steps were done since. -/
structure Under (M : Mc St Pr) (m : Nat) (q : Pr) (s : St) (d t : Nat) (w : World) (j : Nat) (W : World) : Prop where
  tk : TaskAt M (m - j) (runN M q s d j).1 (runN M q s d j).2.2 t W
  inv : M.I (m - j) (runN M q s d j).2.1 W
  tu : Turns (t :: M.L) w W
  mo : Moves M.B M.LL w W

theorem Under.next {m : Nat} {q : Pr} {s : St} {d t j : Nat} {w W : World} (hM : M.Ok) (h : Under M m q s d t w j W) (hj : j < m) (hd : d + m < 4611686018427387904) :
    Calls Try.prog 43 #[.pointer (some ⟨t, 0, none⟩)] W fun e w' => e = .returned (.bool (M.ended (runN M q s d (j + 1)).1)) ∧ Under M m q s d t w (j + 1) w' := by
  have h1 := h.tk
  have h2 := h.inv
  rw [show m - j = (m - (j + 1)) + 1 by omega] at h1 h2
  have := runN_d (M := M) (q := q) (s := s) (d := d) j
  refine (step_any hM h1 h2 (by omega)).mono ?_
  rintro e w' ⟨he, a1, a2, a3, a4⟩
  exact ⟨he, a1, a2, h.tu.trans a3, h.mo.trans a4⟩

theorem finish_any {m : Nat} {q : Pr} {s : St} {d t : Nat} {w : World} (hM : M.Ok) (most : Int) (hmost : most ≤ 9223372036854775807) (h : TaskAt M (m + 1) q d t w) (hi : M.I (m + 1) s w) (hd : d + (m + 1) < 4611686018427387904)
    (hm : most ≤ m ∨ M.ended (runN M q s d m).1 = true) :
    Calls Try.prog 18 #[.pointer (some ⟨t, 0, none⟩), .int .i64 most] w fun e w' => e = .returned (.bool (M.ended (runN M q s d most.toNat).1)) ∧
      TaskAt M 0 (runN M q s d most.toNat).1 (runN M q s d most.toNat).2.2 t w' ∧ M.I 0 (runN M q s d most.toNat).2.1 w' ∧ Turns (t :: M.L) w w' ∧ Moves M.B M.LL w w' := by
  have h0 : Under M (m + 1) q s d t w 0 w := ⟨h, hi, Turns.refl _ _, Moves.refl _ _ _⟩
  have down : ∀ r (W : World) s', M.I r s' W → M.I 0 s' W := fun r => by
    induction r with
    | zero => exact fun W s' h => h
    | succ r ih => exact fun W s' h => ih W s' (hM.less _ _ _ h)
  have downT : ∀ r (W : World) q' d', TaskAt M r q' d' t W → TaskAt M 0 q' d' t W := fun r => by
    induction r with
    | zero => exact fun W q' d' h => h
    | succ r ih => exact fun W q' d' h => ih W q' d' h.less
  clear h hi
  go_enter Try.func18, Try.ntmps18
  go_wp2_with fail
  go_loopw [6] (fun i wr => ∃ j : Nat, i = .int .i64 j ∧ j ≤ m + 1 ∧ (j = 0 ∨ (j : Int) ≤ most) ∧ (j ≤ m ∨ most ≤ j) ∧ Under M (m + 1) q s d t w j wr) (fun i _ => (most - intOf i).toNat)
  case atStart => exact ⟨0, rfl, by omega, .inl rfl, by omega, h0⟩
  case round =>
    obtain ⟨j, rfl, hj, hj2, hj3, hU⟩ := hrel
    by_cases hlt : (j : Int) < most
    · have hjm : j ≤ m := by omega
      have c1 := hU.next hM (by omega) hd
      cases hb : M.ended (runN M q s d (j + 1)).1 with
      | true =>
        rw [hb] at c1
        have e1 : runN M q s d most.toNat = runN M q s d (j + 1) := by
          have := runN_ended hb (most.toNat - (j + 1))
          rwa [show j + 1 + (most.toNat - (j + 1)) = most.toNat by omega] at this
        have E1 := Lib.hid e1
        have HB := Lib.hid hb
        clear hU h0 e1 hm hb
        go_wp2_with fail
        refine c1.mono ?_
        rintro e w1 ⟨rfl, hU⟩
        have c2 := ended_any hU.tk
        rw [HB.out] at c2
        have HU := Lib.hid (And.intro (downT _ _ _ _ hU.tk) (And.intro (down _ _ _ hU.inv) (And.intro hU.tu hU.mo)))
        clear hU c1
        go_wp2_with fail
        refine c2.mono ?_
        rintro e w1 ⟨rfl, rfl⟩
        go_wp2
        go_ret
        rw [E1.out]
        exact ⟨ret_bool HB.out.symm, HU.out⟩
      | false =>
        rw [hb] at c1
        have hj4 : j + 1 ≤ m ∨ most ≤ ((j + 1 : Nat) : Int) := by
          rcases Nat.lt_or_ge j m with h1 | h1
          · exact .inl h1
          · obtain rfl : j = m := by omega
            rcases hm with h2 | h2
            · exact .inr (by omega)
            · have e1 := runN_ended h2 1
              rw [e1, h2] at hb
              cases hb
        clear hU h0 hm hb
        go_wp2_with fail
        refine c1.mono ?_
        rintro e w1 ⟨rfl, hU⟩
        go_wp2
        go_roundw
        case rel => exact ⟨j + 1, by go_num, by omega, .inr (by omega), hj4, hU⟩
        case measure => simp [intOf]; omega
    · have c2 := ended_any hU.tk
      have e1 : runN M q s d most.toNat = runN M q s d j := by
        rw [show most.toNat = j by omega]
      have E1 := Lib.hid e1
      have HU := Lib.hid (And.intro (downT _ _ _ _ hU.tk) (And.intro (down _ _ _ hU.inv) (And.intro hU.tu hU.mo)))
      obtain ⟨bb, hbb⟩ : ∃ bb, M.ended (runN M q s d j).1 = bb := ⟨_, rfl⟩
      rw [hbb] at c2
      have HB := Lib.hid hbb
      clear hU h0 e1 hm hbb
      go_wp2_with fail
      refine c2.mono ?_
      rintro e w1 ⟨rfl, rfl⟩
      go_wp2
      go_ret
      rw [E1.out]
      exact ⟨ret_bool HB.out.symm, HU.out⟩

end

end Go.Proofs.Ythjbmaeoogophaa

/- Slices of structs of numbers that are handed in. -/
namespace Go.Proofs.Ythjbmaeoogophaa
open Go.RowKit Go.ChangeShapes Go.WideShapes

/-- n structs, whose fields are numbers of the kinds ks: F i j is field j of number i. -/
structure SRow (w : World) (ks : List IntKind) (A : Option Addr) (n : Nat) (F : Nat → Nat → Int) : Prop where
  most : n ≤ maxLen
  wf : ∀ (i j : Nat) (k : IntKind), i < n → ks[j]? = some k → (Lit.int k (F i j)).wf = true
  at_ : 0 < n → ∃ a, A = some a ∧ a.block < w.heap.size ∧ ∀ (i j : Nat) (k : IntKind), i < n → ks[j]? = some k → w.cell? (a.add (i * ks.length + j)) = some (.int k (F i j))

theorem SRow.keep {w w' : World} {ks : List IntKind} {A : Option Addr} {n : Nat} {F : Nat → Nat → Int} {B : Nat} (h : SRow w ks A n F) (hB : w.heap.size ≤ B) (g : Below B w w') : SRow w' ks A n F :=
  ⟨h.most, h.wf, fun hn => by
    obtain ⟨a, e, hb, hc⟩ := h.at_ hn
    exact ⟨a, e, Nat.lt_of_lt_of_le hb g.size, fun i j k hi hk => (g.cell (by rw [add_block]; omega)).trans (hc i j k hi hk)⟩⟩

/-- the number that a cell has. -/
def numAt (w : World) (a : Addr) : Int := match w.cell? a with
  | some (.int _ x) => x
  | _ => 0

section
variable {H : Type} {enc : TypeId × Value → H} {P : Program} {w : World} {base : Nat} {spare : Nat → Bool} {held : Bool}
theorem SRow.opened {t e : TypeId} {fs : Array Field} {ks : List IntKind} {a : Option Addr} {n c : Nat} {d : DataW H} {p : List MemPlace} (ht : P.underlying t = some (.slice e)) (he : P.underlying e = some (.struct fs)) (hl : P.cellsOf e = ks.length) (h0 : 0 < ks.length)
    (hk : ∀ (j : Nat) (k : IntKind), ks[j]? = some k → ∃ f : Field, fs[j]? = some f ∧ f.offset = j ∧ P.cellsOf f.type = 1 ∧ P.underlying f.type = some (.int k))
    (h : DataW.Trod enc P w base spare held t (.slice a n c) d p) : ∃ F, SRow w ks a n F := by
  obtain ⟨fuel, hf⟩ := h
  rcases Go.Deep.open_slice ht hf with ⟨hcs, _⟩ | ⟨x, len, cap, m, nn, D, Pl, hcs, _, hlc, hm, hmm, _, hi⟩
  · simp [Value.cells] at hcs
    obtain ⟨rfl, rfl, rfl⟩ := hcs
    exact ⟨fun _ _ => 0, by simp, fun i j k hi => by omega, fun h => by omega⟩
  · simp [Value.cells] at hcs
    obtain ⟨rfl, rfl, rfl⟩ := hcs
    have hnm : n ≤ m := by rw [hmm]; split <;> omega
    have key : ∀ (i j : Nat) (k : IntKind), i < n → ks[j]? = some k → ∃ y, w.cell? (x.add (i * ks.length + j)) = some (.int k y) ∧ (Lit.int k y).wf = true := by
      intro i j k hin hj
      obtain ⟨cs', hc, ht'⟩ := hi i (by omega)
      rw [hl] at hc
      obtain ⟨ys, n', _, _, hlen, hyl, hg⟩ := DataW.trod_struct he ht'
      obtain ⟨_, hcl, hat⟩ := World.cells?_some hc
      obtain ⟨f, hfj, ho, h1, hu⟩ := hk j k hj
      have hjl : j < ks.length := (List.getElem?_eq_some_iff.1 hj).1
      have hjf : j < fs.size := (Array.getElem?_eq_some_iff.1 hfj).1
      have h2 := hg j f hfj
      rw [ho, h1, List.getElem?_eq_getElem (by omega)] at h2
      obtain ⟨y, hy, _, hw⟩ := DataW.trod_int hu h2
      have h3 : cs'[j]? = some (.int k y) := by
        have h4 : ((cs'.drop j).take 1)[0]? = some (.int k y) := by rw [hy]; rfl
        simpa using h4
      refine ⟨y, ?_, hw⟩
      rw [← Go.Deep.add_add, hat j hjl, h3]
    refine ⟨fun i j => numAt w (x.add (i * ks.length + j)), by omega, fun i j k hin hj => ?_, fun hn => ⟨x, rfl, ?_, fun i j k hin hj => ?_⟩⟩
    · obtain ⟨y, h1, h2⟩ := key i j k hin hj
      simpa [numAt, h1] using h2
    · obtain ⟨y, h1, _⟩ := key 0 0 ks[0] hn (List.getElem?_eq_getElem h0)
      have := cell_block h1
      rwa [add_block] at this
    · obtain ⟨y, h1, h2⟩ := key i j k hin hj
      simp [numAt, h1]
end

theorem i64_of_wf {x : Int} (h : (Lit.int .i64 x).wf = true) : -9223372036854775808 ≤ x ∧ x ≤ 9223372036854775807 := bounds_i64 h

theorem add_past (b : Addr) (j : Nat) : b.add (j + 1) = ⟨b.block, b.off + (j + 1), none⟩ := by unfold Addr.add; simp

end Go.Proofs.Ythjbmaeoogophaa

/- Tasks: Run. -/
namespace Go.Proofs.Ythjbmaeoogophaa
open Go.RowKit

def updF {α : Type} (f : Nat → α) (j : Nat) (v : α) : Nat → α := fun i => if i = j then v else f i
theorem updF_same {α : Type} (f : Nat → α) (j : Nat) (v : α) : updF f j v j = v := by simp [updF]
theorem updF_ne {α : Type} (f : Nat → α) {i j : Nat} (v : α) (h : i ≠ j) : updF f j v i = f i := by simp [updF, h]

/-- tasks under way: the state, what each still does, how many steps each did, how many were done by Run. -/
structure Cfg (St Pr : Type) where
  s : St
  q : Nat → Pr
  d : Nat → Nat
  n : Nat

section
variable {St Pr : Type} (M : Mc St Pr)
/-- is it a pick that does a step? -/
def doesP (N : Nat) (c : Cfg St Pr) (i : Int) : Bool := decide (0 ≤ i ∧ i < N) && !M.ended (c.q i.toNat)
def pick1 (N : Nat) (c : Cfg St Pr) (i : Int) : Cfg St Pr :=
  if doesP M N c i = true then ⟨(M.step (c.q i.toNat) c.s).2, updF c.q i.toNat (M.step (c.q i.toNat) c.s).1, updF c.d i.toNat (c.d i.toNat + 1), c.n + 1⟩ else c
def pickTo (N : Nat) (c : Cfg St Pr) (xs : List Int) (m : Nat) : Cfg St Pr := (xs.take m).foldl (pick1 M N) c
theorem pickTo_succ (N : Nat) (c : Cfg St Pr) (xs : List Int) (m : Nat) (h : m < xs.length) : pickTo M N c xs (m + 1) = pick1 M N (pickTo M N c xs m) (xs.getD m 0) := by
  unfold pickTo
  rw [List.take_succ_eq_append_getElem h, List.foldl_append]
  simp [List.getD, h]

/-- n tasks, at the blocks ts, with whatever is written beside them in L. -/
structure TRow (w : World) (L : List Nat) (A : Option Addr) (n : Nat) (ts : Nat → Nat) : Prop where
  most : n ≤ maxLen
  inj : ∀ i j, i < n → j < n → ts i = ts j → i = j
  at_ : 0 < n → ∃ a, A = some a ∧ a.block < w.heap.size ∧ a.block ∉ L ∧ (∀ i, i < n → a.block ≠ ts i) ∧ ∀ i, i < n → w.cell? (a.add i) = some (.pointer (some ⟨ts i, 0, none⟩))

/-- the blocks of tasks. -/
def tsL (n : Nat) (ts : Nat → Nat) : List Nat := (List.range n).map ts
theorem tsL_mem {n : Nat} {ts : Nat → Nat} {b : Nat} : b ∈ tsL n ts ↔ ∃ i, i < n ∧ ts i = b := by simp [tsL]

theorem TRow.turn {w w' : World} {L : List Nat} {A : Option Addr} {n : Nat} {ts : Nat → Nat} (h : TRow w L A n ts) (k : Turns (tsL n ts ++ L) w w') : TRow w' L A n ts :=
  ⟨h.most, h.inj, fun hn => by
    obtain ⟨a, e, h1, h2, h3, h4⟩ := h.at_ hn
    refine ⟨a, e, Nat.lt_of_lt_of_le h1 k.size, h2, h3, fun i hi => (k.cell (by rw [add_block]; exact h1) ?_).trans (h4 i hi)⟩
    rw [add_block, List.mem_append, tsL_mem]
    rintro (⟨j, hj, e⟩ | hm)
    · exact h3 j hj e.symm
    · exact h2 hm⟩
theorem TRow.less {w : World} {L L' : List Nat} {A : Option Addr} {n : Nat} {ts : Nat → Nat} (h : TRow w L A n ts) (hL : ∀ b, b ∈ L' → b ∈ L) : TRow w L' A n ts :=
  ⟨h.most, h.inj, fun hn => by
    obtain ⟨a, e, h1, h2, h3, h4⟩ := h.at_ hn
    exact ⟨a, e, h1, fun hm => h2 (hL _ hm), h3, h4⟩⟩

/-- numbers that are handed in, and which no block of L holds. -/
structure RowX (w : World) (L : List Nat) (A : Option Addr) (n : Nat) (xs : List Int) : Prop where
  row : Row w .i64 A n xs
  out : 0 < n → ∀ a, A = some a → a.block ∉ L
theorem RowX.turn {w w' : World} {L : List Nat} {A : Option Addr} {n : Nat} {xs : List Int} (h : RowX w L A n xs) (k : Turns L w w') : RowX w' L A n xs :=
  ⟨⟨h.row.len, h.row.most, h.row.wf, fun hn => by
    obtain ⟨a, e, hb, hc⟩ := h.row.at_ hn
    exact ⟨a, e, Nat.lt_of_lt_of_le hb k.size, fun i hi => (k.cell (by rw [add_block]; exact hb) (by rw [add_block]; exact h.out hn a e)).trans (hc i hi)⟩⟩, h.out⟩

/-- all tasks, in memory. -/
structure All (M : Mc St Pr) (m N : Nat) (ts : Nat → Nat) (c : Cfg St Pr) (W : World) : Prop where
  tk : ∀ i, i < N → TaskAt M m (c.q i) (c.d i) (ts i) W
  inv : M.I m c.s W

variable {M}
theorem TaskAt.keep {m : Nat} {q : Pr} {d t : Nat} {w w' : World} {L' : List Nat} (h : TaskAt M m q d t w) (k : Turns L' w w') (g : Moves M.B M.LL w w') (ht : t ∉ L') : TaskAt M m q d t w' := h.turns k g ht

theorem All.step {m N : Nat} {ts : Nat → Nat} {c : Cfg St Pr} {W : World} (hM : M.Ok) (h : All M (m + 1) N ts c W) (hinj : ∀ i j, i < N → j < N → ts i = ts j → i = j) (j : Nat) (hj : j < N) (he : M.ended (c.q j) = false) (hd : c.d j < 4611686018427387904) :
    Calls Try.prog 43 #[.pointer (some ⟨ts j, 0, none⟩)] W fun e w' => (∃ b, e = .returned (.bool b)) ∧ All M m N ts (pick1 M N c j) w' ∧ Turns (tsL N ts ++ M.L) W w' ∧ Moves M.B M.LL W w' := by
  refine (step_any hM (h.tk j hj) h.inv hd).mono ?_
  rintro e w' ⟨he1, a1, a2, a3, a4⟩
  have hp : doesP M N c j = true := by simp [doesP, he, hj]
  have e1 : stepQ M (c.q j) c.s = (M.step (c.q j) c.s).1 := by simp [stepQ, he]
  have e2 : stepD M (c.q j) (c.d j) = c.d j + 1 := by simp [stepD, he]
  have e3 : stepS M (c.q j) c.s = (M.step (c.q j) c.s).2 := by simp [stepS, he]
  rw [e1, e2] at a1
  rw [e3] at a2
  refine ⟨⟨_, he1⟩, ⟨?_, ?_⟩, a3.more (fun b hb => ?_), a4⟩
  · intro i hi
    unfold pick1
    rw [if_pos hp]
    simp only [Int.toNat_natCast]
    by_cases hij : i = j
    · subst hij
      rw [updF_same, updF_same]
      exact a1
    · rw [updF_ne _ _ hij, updF_ne _ _ hij]
      refine (h.tk i hi).less.turns a3 a4 ?_
      intro hm
      rcases List.mem_cons.1 hm with h1 | h1
      · exact hij (hinj i j hi hj h1)
      · exact (h.tk i hi).out (hM.sub _ h1)
  · unfold pick1
    rw [if_pos hp]
    simpa using a2
  · rcases List.mem_cons.1 hb with h1 | h1
    · subst h1
      exact .inl (List.mem_append.2 (.inl (tsL_mem.2 ⟨j, hj, rfl⟩)))
    · exact .inl (List.mem_append.2 (.inr h1))

theorem pick1_d {N : Nat} (c : Cfg St Pr) (i : Int) (j : Nat) : (pick1 M N c i).d j ≤ c.d j + 1 := by
  unfold pick1
  split
  · simp only [updF]
    split
    · rename_i h; subst h; omega
    · omega
  · omega
theorem pickTo_d {N : Nat} (c : Cfg St Pr) (xs : List Int) (j : Nat) : ∀ m, m ≤ xs.length → (pickTo M N c xs m).d j ≤ c.d j + m
  | 0, _ => by simp [pickTo]
  | m + 1, h => by
    rw [pickTo_succ M N c xs m (by omega)]
    have := pick1_d (M := M) (N := N) (pickTo M N c xs m) (xs.getD m 0) j
    have := pickTo_d (N := N) c xs j m (by omega)
    omega
theorem pick1_no {N : Nat} {c : Cfg St Pr} {i : Int} (h : doesP M N c i = false) : pick1 M N c i = c := by simp [pick1, h]
theorem pick1_n {N : Nat} {c : Cfg St Pr} {i : Int} (h : doesP M N c i = true) : (pick1 M N c i).n = c.n + 1 := by simp [pick1, h]
theorem pickTo_n {N : Nat} (c : Cfg St Pr) (xs : List Int) : ∀ m, m ≤ xs.length → (pickTo M N c xs m).n ≤ c.n + m
  | 0, _ => by simp [pickTo]
  | m + 1, h => by
    rw [pickTo_succ M N c xs m (by omega)]
    have := pickTo_n (N := N) c xs m (by omega)
    unfold pick1
    split
    · show _ + 1 ≤ _; omega
    · omega

/-- in the midst of Run: m picks are done. -/
structure RunAt (M : Mc St Pr) (f N : Nat) (ts : Nat → Nat) (c : Cfg St Pr) (xs : List Int) (w : World) (m : Nat) (W : World) : Prop where
  all : All M (f - m) N ts (pickTo M N c xs m) W
  tu : Turns (tsL N ts ++ M.L) w W
  mo : Moves M.B M.LL w W

theorem All.less {m N : Nat} {ts : Nat → Nat} {c : Cfg St Pr} {W : World} (hM : M.Ok) (h : All M (m + 1) N ts c W) : All M m N ts c W := ⟨fun i hi => (h.tk i hi).less, hM.less _ _ _ h.inv⟩

set_option maxHeartbeats 1000000 in
theorem run_any {f : Nat} (hM : M.Ok) (A B : Option Addr) (N ca n cb : Nat) (ts : Nat → Nat) (xs : List Int) (c : Cfg St Pr) (w : World)
    (hT : TRow w M.L A N ts) (hR : RowX w (tsL N ts ++ M.L) B n xs) (hA : All M f N ts c w) (hf : n ≤ f) (hc : c.n = 0) (hd : ∀ i, i < N → c.d i + n < 4611686018427387904) :
    Calls Try.prog 24 #[.slice A N ca, .slice B n cb] w fun e w' => e = .returned (.int .i64 (pickTo M N c xs n).n) ∧ RunAt M f N ts c xs w n w' := by
  have hmx := hR.row.most
  have hln := hR.row.len
  have hmt := hT.most
  unfold maxLen at hmx hmt
  go_enter Try.func24, Try.ntmps24
  go_wp2_with fail
  go_loopw [5, 10] (fun u i wr => ∃ m : Nat, m ≤ n ∧ i = .int .i64 m ∧ u = .int .i64 (pickTo M N c xs m).n ∧ RunAt M f N ts c xs w m wr) (fun _ i _ => n - (intOf i).toNat)
  case atStart => exact ⟨0, by omega, rfl, by simp [pickTo, hc], ⟨hA, Turns.refl _ _, Moves.refl _ _ _⟩⟩
  case round =>
    obtain ⟨m, hmn, rfl, rfl, hrun⟩ := hrel
    by_cases hlt : m < n
    · have hR' := hR.turn hrun.tu
      have hT' := hT.turn hrun.tu
      obtain ⟨b, rfl, hbb, hcell⟩ := hR'.row.at_ (by omega)
      have hcx := hcell m hlt
      have hwx := i64_of_wf (hR'.row.wf (xs.getD m 0) (by simp [List.getD, show m < xs.length by omega]))
      have hS := Lib.hid (pickTo_succ M N c xs m (by omega))
      have hdn := pickTo_n (M := M) (N := N) c xs m (by omega)
      have hdd := fun i => pickTo_d (M := M) (N := N) c xs i m (by omega)
      have hall := hrun.all
      rw [show f - m = (f - (m + 1)) + 1 by omega] at hall
      have htu := hrun.tu
      have hmo := hrun.mo
      rw [hc] at hdn
      clear hcell hR' hA hrun
      generalize xs.getD m 0 = x at *
      generalize hc' : pickTo M N c xs m = c' at *
      clear hc'
      cases hdo : doesP M N c' x with
      | false =>
        have HS : Hid (pickTo M N c xs (m + 1) = c') := Lib.hid (by rw [hS.out, pick1_no hdo])
        have HR : Hid (All M (f - (m + 1)) N ts c' wr) := Lib.hid (hall.less hM)
        have HN : Hid (RunAt M f N ts c xs w (m + 1) wr) := Lib.hid ⟨by rw [HS.out]; exact HR.out, htu, hmo⟩
        rcases (by omega : x < 0 ∨ 0 ≤ x ∧ (N : Int) ≤ x ∨ 0 ≤ x ∧ x < N) with hx | ⟨hx, hx2⟩ | ⟨hx, hx2⟩
        · clear hall hdo hT' hdd hd
          go_wp2
          go_roundw
          case rel => exact ⟨m + 1, by omega, by go_num, by rw [HS.out], HN.out⟩
          case measure => simp [intOf]; omega
        · clear hall hdo hT' hdd hd
          go_wp2
          go_roundw
          case rel => exact ⟨m + 1, by omega, by go_num, by rw [HS.out], HN.out⟩
          case measure => simp [intOf]; omega
        · obtain ⟨j, rfl⟩ := Int.eq_ofNat_of_zero_le hx
          have hj : j < N := by omega
          have he : M.ended (c'.q j) = true := by simpa [doesP, hj] using hdo
          obtain ⟨a, rfl, ha1, _, _, ha2⟩ := hT'.at_ (by omega)
          have hca := ha2 j hj
          have c1 := ended_any (hall.tk j hj)
          rw [he] at c1
          clear hall hdo hT' hdd hd ha2 he
          go_wp2_with fail
          refine c1.mono ?_
          rintro e w' ⟨rfl, rfl⟩
          go_wp2
          go_roundw
          case rel => exact ⟨m + 1, by omega, by go_num, by rw [HS.out], HN.out⟩
          case measure => simp [intOf]; omega
      | true =>
        have hx : 0 ≤ x ∧ x < N := by simp [doesP] at hdo; omega
        obtain ⟨j, rfl⟩ := Int.eq_ofNat_of_zero_le hx.1
        have hj : j < N := by omega
        have he : M.ended (c'.q j) = false := by simpa [doesP, hj] using hdo
        obtain ⟨a, rfl, ha1, _, _, ha2⟩ := hT'.at_ (by omega)
        have hca := ha2 j hj
        have c1 := ended_any (hall.tk j hj)
        rw [he] at c1
        have hdj := hdd j
        have hdj2 := hd j hj
        have c2 := hall.step hM hT'.inj j hj he (by omega)
        have HS : Hid (pickTo M N c xs (m + 1) = pick1 M N c' j) := Lib.hid hS.out
        have HN : Hid ((pickTo M N c xs (m + 1)).n = c'.n + 1) := Lib.hid (by rw [hS.out, pick1_n hdo])
        clear hall hdo hT' hdd hd ha2 he hdj hdj2
        go_wp2_with fail
        refine c1.mono ?_
        rintro e w' ⟨rfl, rfl⟩
        go_wp2_with fail
        refine c2.mono ?_
        rintro e w1 ⟨⟨bb, rfl⟩, a1, a2, a3⟩
        go_wp2
        go_roundw
        case rel => exact ⟨m + 1, by omega, by go_num, by rw [HN.out]; go_num, ⟨by rw [HS.out]; exact a1, htu.trans a2, hmo.trans a3⟩⟩
        case measure => simp [intOf]; omega
    · obtain rfl : m = n := by omega
      go_wp2
      go_ret
      exact ⟨rfl, hrun⟩
end

end Go.Proofs.Ythjbmaeoogophaa

/- Tasks over any machine: Run. -/
namespace Go.Proofs.Ythjbmaeoogophaa
open Go.RowKit

section
variable {St Pr : Type} (M : Gm St Pr)
/-- is it a pick that does a step? -/
def Gm.does (N : Nat) (c : Cfg St Pr) (i : Int) : Bool := decide (0 ≤ i ∧ i < N) && !M.ended (c.q i.toNat)
def Gm.pick (N : Nat) (c : Cfg St Pr) (i : Int) : Cfg St Pr :=
  if M.does N c i = true then ⟨(M.step (c.q i.toNat) c.s).2, updF c.q i.toNat (M.step (c.q i.toNat) c.s).1, updF c.d i.toNat (c.d i.toNat + 1), c.n + 1⟩ else c
def Gm.picks (N : Nat) (c : Cfg St Pr) (xs : List Int) (m : Nat) : Cfg St Pr := (xs.take m).foldl (M.pick N) c
theorem picks_succ (N : Nat) (c : Cfg St Pr) (xs : List Int) (m : Nat) (h : m < xs.length) : M.picks N c xs (m + 1) = M.pick N (M.picks N c xs m) (xs.getD m 0) := by
  unfold Gm.picks
  rw [List.take_succ_eq_append_getElem h, List.foldl_append]
  simp [List.getD, h]

/-- n tasks, at the blocks ts. -/
structure Gm.TRow (w : World) (A : Option Addr) (n : Nat) (ts : Nat → Nat) : Prop where
  most : n ≤ maxLen
  inj : ∀ i j, i < n → j < n → ts i = ts j → i = j
  at_ : 0 < n → ∃ a, A = some a ∧ a.block < w.heap.size ∧ a.block ∉ M.L ∧ ¬ Rw M.ws w a.block ∧ (∀ i, i < n → a.block ≠ ts i) ∧ ∀ i, i < n → w.cell? (a.add i) = some (ptr (ts i))

/-- numbers that are handed in, and which nothing writes. -/
structure Gm.RowX (w : World) (N : Nat) (ts : Nat → Nat) (A : Option Addr) (n : Nat) (xs : List Int) : Prop where
  row : Row w .i64 A n xs
  out : 0 < n → ∀ a, A = some a → a.block ∉ tsL N ts ++ M.L ∧ ¬ Rw M.ws w a.block

/-- all tasks, in memory. -/
structure Gm.All (m N : Nat) (ts : Nat → Nat) (c : Cfg St Pr) (W : World) : Prop where
  tk : ∀ i, i < N → M.Task m (c.q i) (c.d i) (ts i) W
  inv : M.I m c.s W

variable {M}
theorem Gm.TRow.turn {w w' : World} {A : Option Addr} {n : Nat} {ts : Nat → Nat} (h : M.TRow w A n ts) (k : Fr (tsL n ts ++ M.L) M.ws w w') : M.TRow w' A n ts :=
  ⟨h.most, h.inj, fun hn => by
    obtain ⟨a, e, h1, h2, h3, h4, h5⟩ := h.at_ hn
    have out : a.block ∉ tsL n ts ++ M.L := by
      rw [List.mem_append, tsL_mem]
      rintro (⟨j, hj, e⟩ | hm)
      · exact h4 j hj e.symm
      · exact h2 hm
    refine ⟨a, e, Nat.lt_of_lt_of_le h1 k.size, h2, k.row h1 h3, h4, fun i hi => (k.cell (by rw [add_block]; exact h1) (by rw [add_block]; exact out) (by rw [add_block]; exact h3)).trans (h5 i hi)⟩⟩
theorem Gm.RowX.turn {w w' : World} {N : Nat} {ts : Nat → Nat} {A : Option Addr} {n : Nat} {xs : List Int} (h : M.RowX w N ts A n xs) (k : Fr (tsL N ts ++ M.L) M.ws w w') : M.RowX w' N ts A n xs :=
  ⟨⟨h.row.len, h.row.most, h.row.wf, fun hn => by
    obtain ⟨a, e, hb, hc⟩ := h.row.at_ hn
    obtain ⟨h1, h2⟩ := h.out hn a e
    exact ⟨a, e, Nat.lt_of_lt_of_le hb k.size, fun i hi => (k.cell (by rw [add_block]; exact hb) (by rw [add_block]; exact h1) (by rw [add_block]; exact h2)).trans (hc i hi)⟩⟩, fun hn a e => by
    obtain ⟨a', e', hb, _⟩ := h.row.at_ hn
    rw [e] at e'
    injection e' with e'
    subst e'
    obtain ⟨h1, h2⟩ := h.out hn a e
    exact ⟨h1, k.row hb h2⟩⟩

theorem Gm.All.step {m N : Nat} {ts : Nat → Nat} {c : Cfg St Pr} {W : World} (hM : M.Ok) (h : M.All (m + 1) N ts c W) (hinj : ∀ i j, i < N → j < N → ts i = ts j → i = j) (j : Nat) (hj : j < N) (he : M.ended (c.q j) = false) (hW : M.W (c.q j) c.s) (hd : c.d j < 4611686018427387904) :
    Calls Try.prog 43 #[ptr (ts j)] W fun e w' => (∃ b, e = .returned (.bool b)) ∧ M.All m N ts (M.pick N c j) w' ∧ Fr (tsL N ts ++ M.L) M.ws W w' ∧ Mv M.B (M.L ++ M.X) M.ws W w' := by
  refine (step_g hM (h.tk j hj) h.inv (fun _ => hW) hd).mono ?_
  rintro e w' ⟨he1, a1, a2, a3, a4⟩
  have hp : M.does N c j = true := by simp [Gm.does, he, hj]
  have e1 : M.sQ (c.q j) c.s = (M.step (c.q j) c.s).1 := by simp [Gm.sQ, he]
  have e2 : M.sD (c.q j) (c.d j) = c.d j + 1 := by simp [Gm.sD, he]
  have e3 : M.sS (c.q j) c.s = (M.step (c.q j) c.s).2 := by simp [Gm.sS, he]
  rw [e1, e2] at a1
  rw [e3] at a2
  refine ⟨⟨_, he1⟩, ⟨?_, ?_⟩, a3.more (fun b hb => ?_), a4⟩
  · intro i hi
    unfold Gm.pick
    rw [if_pos hp]
    simp only [Int.toNat_natCast]
    by_cases hij : i = j
    · subst hij
      rw [updF_same, updF_same]
      exact a1
    · rw [updF_ne _ _ hij, updF_ne _ _ hij]
      have h1 := (h.tk i hi).less
      refine h1.keep (a3.block _ h1.lt (fun hm => ?_) h1.row) a4
      rcases List.mem_cons.1 hm with h2 | h2
      · exact hij (hinj i j hi hj h2)
      · exact h1.out h2
  · unfold Gm.pick
    rw [if_pos hp]
    simpa using a2
  · rcases List.mem_cons.1 hb with h1 | h1
    · subst h1
      exact List.mem_append.2 (.inl (tsL_mem.2 ⟨j, hj, rfl⟩))
    · exact List.mem_append.2 (.inr h1)

theorem pick_d {N : Nat} (c : Cfg St Pr) (i : Int) (j : Nat) : (M.pick N c i).d j ≤ c.d j + 1 := by
  unfold Gm.pick
  split
  · simp only [updF]
    split
    · rename_i h; subst h; omega
    · omega
  · omega
theorem picks_d {N : Nat} (c : Cfg St Pr) (xs : List Int) (j : Nat) : ∀ m, m ≤ xs.length → (M.picks N c xs m).d j ≤ c.d j + m
  | 0, _ => by simp [Gm.picks]
  | m + 1, h => by
    rw [picks_succ M N c xs m (by omega)]
    have := pick_d (M := M) (N := N) (M.picks N c xs m) (xs.getD m 0) j
    have := picks_d (N := N) c xs j m (by omega)
    omega
theorem pick_no {N : Nat} {c : Cfg St Pr} {i : Int} (h : M.does N c i = false) : M.pick N c i = c := by simp [Gm.pick, h]
theorem pick_n {N : Nat} {c : Cfg St Pr} {i : Int} (h : M.does N c i = true) : (M.pick N c i).n = c.n + 1 := by simp [Gm.pick, h]
theorem picks_n {N : Nat} (c : Cfg St Pr) (xs : List Int) : ∀ m, m ≤ xs.length → (M.picks N c xs m).n ≤ c.n + m
  | 0, _ => by simp [Gm.picks]
  | m + 1, h => by
    rw [picks_succ M N c xs m (by omega)]
    have := picks_n (N := N) c xs m (by omega)
    unfold Gm.pick
    split
    · show _ + 1 ≤ _; omega
    · omega

/-- in the midst of Run: m picks are done. -/
structure Gm.RunAt (M : Gm St Pr) (f N : Nat) (ts : Nat → Nat) (c : Cfg St Pr) (xs : List Int) (w : World) (m : Nat) (W : World) : Prop where
  all : M.All (f - m) N ts (M.picks N c xs m) W
  fr : Fr (tsL N ts ++ M.L) M.ws w W
  mo : Mv M.B (M.L ++ M.X) M.ws w W

theorem Gm.All.less {m N : Nat} {ts : Nat → Nat} {c : Cfg St Pr} {W : World} (hM : M.Ok) (h : M.All (m + 1) N ts c W) : M.All m N ts c W := ⟨fun i hi => (h.tk i hi).less, hM.less _ _ _ h.inv⟩

set_option maxHeartbeats 1000000 in
set_option maxRecDepth 100000 in
theorem run_g {f : Nat} (hM : M.Ok) (A B : Option Addr) (N ca n cb : Nat) (ts : Nat → Nat) (xs : List Int) (c : Cfg St Pr) (w : World)
    (hT : M.TRow w A N ts) (hR : M.RowX w N ts B n xs) (hA : M.All f N ts c w) (hf : n ≤ f) (hc : c.n = 0) (hW : ∀ m, m < n → ∀ i, i < N → M.does N (M.picks N c xs m) i = true → xs.getD m 0 = (i : Int) → M.W ((M.picks N c xs m).q i) (M.picks N c xs m).s) (hd : ∀ i, i < N → c.d i + n < 4611686018427387904) :
    Calls Try.prog 24 #[.slice A N ca, .slice B n cb] w fun e w' => e = .returned (.int .i64 (M.picks N c xs n).n) ∧ M.RunAt f N ts c xs w n w' := by
  have hmx := hR.row.most
  have hln := hR.row.len
  have hmt := hT.most
  unfold maxLen at hmx hmt
  go_enter Try.func24, Try.ntmps24
  go_wp2_with fail
  go_loopw [5, 10] (fun u i wr => ∃ m : Nat, m ≤ n ∧ i = .int .i64 m ∧ u = .int .i64 (M.picks N c xs m).n ∧ M.RunAt f N ts c xs w m wr) (fun _ i _ => n - (intOf i).toNat)
  case atStart => exact ⟨0, by omega, rfl, by simp [Gm.picks, hc], ⟨hA, Fr.refl _ _ _, Mv.refl _ _ _ _⟩⟩
  case round =>
    obtain ⟨m, hmn, rfl, rfl, hrun⟩ := hrel
    by_cases hlt : m < n
    · have hR' := hR.turn hrun.fr
      have hT' := hT.turn hrun.fr
      obtain ⟨b, rfl, hbb, hcell⟩ := hR'.row.at_ (by omega)
      have hcx := hcell m hlt
      have hwx := i64_of_wf (hR'.row.wf (xs.getD m 0) (by simp [List.getD, show m < xs.length by omega]))
      have hS := Lib.hid (picks_succ M N c xs m (by omega))
      have hdn := picks_n (M := M) (N := N) c xs m (by omega)
      have hdd := fun i => picks_d (M := M) (N := N) c xs i m (by omega)
      have hall := hrun.all
      rw [show f - m = (f - (m + 1)) + 1 by omega] at hall
      have htu := hrun.fr
      have hWm := hW m hlt
      have hmo := hrun.mo
      rw [hc] at hdn
      clear hcell hR' hA hrun
      generalize xs.getD m 0 = x at *
      generalize hc' : M.picks N c xs m = c' at *
      clear hc'
      cases hdo : M.does N c' x with
      | false =>
        have HS : Hid (M.picks N c xs (m + 1) = c') := Lib.hid (by rw [hS.out, pick_no hdo])
        have HR : Hid (M.All (f - (m + 1)) N ts c' wr) := Lib.hid (hall.less hM)
        have HN : Hid (M.RunAt f N ts c xs w (m + 1) wr) := Lib.hid ⟨by rw [HS.out]; exact HR.out, htu, hmo⟩
        rcases (by omega : x < 0 ∨ 0 ≤ x ∧ (N : Int) ≤ x ∨ 0 ≤ x ∧ x < N) with hx | ⟨hx, hx2⟩ | ⟨hx, hx2⟩
        · clear hall hdo hT' hdd hd hWm hW
          go_wp2
          go_roundw
          case rel => exact ⟨m + 1, by omega, by go_num, by rw [HS.out], HN.out⟩
          case measure => simp [intOf]; omega
        · clear hall hdo hT' hdd hd hWm hW
          go_wp2
          go_roundw
          case rel => exact ⟨m + 1, by omega, by go_num, by rw [HS.out], HN.out⟩
          case measure => simp [intOf]; omega
        · obtain ⟨j, rfl⟩ := Int.eq_ofNat_of_zero_le hx
          have hj : j < N := by omega
          have he : M.ended (c'.q j) = true := by simpa [Gm.does, hj] using hdo
          obtain ⟨a, rfl, ha1, _, _, _, ha2⟩ := hT'.at_ (by omega)
          have hca := ha2 j hj
          have c1 := ended_g (hall.tk j hj)
          rw [he] at c1
          clear hall hdo hT' hdd hd ha2 he hWm hW
          go_wp2_with fail
          refine c1.mono ?_
          rintro e w' ⟨rfl, rfl⟩
          go_wp2
          go_roundw
          case rel => exact ⟨m + 1, by omega, by go_num, by rw [HS.out], HN.out⟩
          case measure => simp [intOf]; omega
      | true =>
        have hx : 0 ≤ x ∧ x < N := by simp [Gm.does] at hdo; omega
        obtain ⟨j, rfl⟩ := Int.eq_ofNat_of_zero_le hx.1
        have hj : j < N := by omega
        have he : M.ended (c'.q j) = false := by simpa [Gm.does, hj] using hdo
        obtain ⟨a, rfl, ha1, _, _, _, ha2⟩ := hT'.at_ (by omega)
        have hca := ha2 j hj
        have c1 := ended_g (hall.tk j hj)
        rw [he] at c1
        have hdj := hdd j
        have hdj2 := hd j hj
        have c2 := hall.step hM hT'.inj j hj he (hWm j hj hdo rfl) (by omega)
        have HS : Hid (M.picks N c xs (m + 1) = M.pick N c' j) := Lib.hid hS.out
        have HN : Hid ((M.picks N c xs (m + 1)).n = c'.n + 1) := Lib.hid (by rw [hS.out, pick_n hdo])
        clear hall hdo hT' hdd hd ha2 he hdj hdj2 hWm hW
        go_wp2_with fail
        refine c1.mono ?_
        rintro e w' ⟨rfl, rfl⟩
        go_wp2_with fail
        refine c2.mono ?_
        rintro e w1 ⟨⟨bb, rfl⟩, a1, a2, a3⟩
        go_wp2
        go_roundw
        case rel => exact ⟨m + 1, by omega, by go_num, by rw [HN.out]; go_num, ⟨by rw [HS.out]; exact a1, htu.trans a2, hmo.trans a3⟩⟩
        case measure => simp [intOf]; omega
    · obtain rfl : m = n := by omega
      go_wp2
      go_ret
      exact ⟨rfl, hrun⟩
end

end Go.Proofs.Ythjbmaeoogophaa

/- Slices of int that the call itself has made. -/
namespace Go.Proofs.Ythjbmaeoogophaa
open Go.RowKit Go.ChangeShapes Go.WideShapes

theorem int_info4 : (Try.prog.info? 3).map (fun i => (i.zero, i.size, i.bytes)) = some (some (.int .i64 0), 1, 8) := by kernel_rfl

theorem add_head4 (g i : Nat) : (Addr.mk g 0 none).add i = ⟨g, i, none⟩ := by unfold Addr.add; split <;> simp_all

/-- numbers that are ints. -/
def Ints (xs : List Int) : Prop := ∀ x, x ∈ xs → (Lit.int .i64 x).wf = true
theorem Ints.nil : Ints [] := by intro x hx; cases hx
theorem Ints.one {x : Int} (h : (Lit.int .i64 x).wf = true) : Ints [x] := by intro y hy; rw [List.mem_singleton] at hy; subst hy; exact h
theorem Ints.app {xs ys : List Int} (h : Ints xs) (k : Ints ys) : Ints (xs ++ ys) := by
  intro y hy
  rcases List.mem_append.1 hy with h1 | h1
  · exact h y h1
  · exact k y h1
theorem Ints.cons {x : Int} {ys : List Int} (h : (Lit.int .i64 x).wf = true) (k : Ints ys) : Ints (x :: ys) := Ints.app (Ints.one h) k
theorem Ints.get {xs : List Int} (h : Ints xs) (i : Nat) : (Lit.int .i64 (xs.getD i 0)).wf = true := by
  by_cases hi : i < xs.length
  · simp [List.getD, hi]; exact h _ (List.getElem_mem _)
  · simp [List.getD, hi]; decide
theorem Ints.bd {xs : List Int} (h : Ints xs) (i : Nat) : -9223372036854775808 ≤ xs.getD i 0 ∧ xs.getD i 0 ≤ 9223372036854775807 := by
  have := bounds_i64 (h.get i); omega

/-- the slice v, of the call's own from block B on, has the numbers xs. -/
structure IRow (W : World) (B : Nat) (v : Value) (xs : List Int) : Prop where
  own : W.ownsRow B 3 1 v xs.length (xs.map (Value.int .i64))
  ints : Ints xs

section
variable {W W' : World} {B : Nat} {v : Value} {xs ys : List Int}

theorem IRow.nil (W : World) (B : Nat) : IRow W B (.slice none 0 0) [] := ⟨⟨rfl, .inl ⟨rfl, rfl⟩⟩, Ints.nil⟩

/-- a slice literal, just made. -/
theorem IRow.lit (W : World) {B : Nat} (xs : List Int) (cs : Array Value) (h : cs.toList = xs.map (Value.int .i64)) (hB : B ≤ W.heap.size) (hx : Ints xs) (hl : xs.length ≤ 100000) :
    IRow (W.alloc (.cells cs 3)) B (.slice (some ⟨W.heap.size, 0, none⟩) xs.length xs.length) xs := by
  have hs : cs.size = xs.length := by rw [← Array.length_toList, h, List.length_map]
  exact ⟨⟨by simp, .inr ⟨W.heap.size, xs.length, cs, rfl, hB, heap_alloc_new W _, Nat.le_refl _, by simp only [maxLen]; omega, by rw [hs, Nat.mul_one], by rw [← h, List.take_of_length_le (by rw [h]; simp)]⟩⟩, hx⟩

theorem IRow.lt (h : IRow W B v xs) : ∀ k, v.ownBlock = some k → B ≤ k ∧ k < W.heap.size := h.own.lt

theorem IRow.kept (h : IRow W B v xs) (k : ∀ g, v.ownBlock = some g → W'.heap[g]? = W.heap[g]?) : IRow W' B v xs := by
  refine ⟨⟨h.own.1, ?_⟩, h.ints⟩
  rcases h.own.2 with h1 | ⟨g, cap, cur, h1, h2, h3, h4⟩
  · exact .inl h1
  · exact .inr ⟨g, cap, cur, h1, h2, (k g (by rw [h1]; rfl)).trans h3, h4⟩
theorem IRow.below {C : Nat} (h : IRow W B v xs) (k : Below C W W') (hC : W.heap.size ≤ C) : IRow W' B v xs :=
  h.kept fun g hg => k.block g (by have := h.lt g hg; omega)
theorem IRow.alloc (h : IRow W B v xs) (o : Obj) : IRow (W.alloc o) B v xs := h.below ((Below.refl W.heap.size W).alloc (Nat.le_refl _) o) (Nat.le_refl _)

theorem IRow.length (h : IRow W B v xs) : xs.length ≤ maxLen := by
  rcases h.own.2 with ⟨_, h0⟩ | ⟨g, cap, cur, _, _, _, h3, h4, _⟩
  · rw [h0]; simp
  · omega

/-- read as a slice that is handed in. -/
theorem IRow.row (h : IRow W B v xs) : ∃ A cp, v = .slice A xs.length cp ∧ Row W .i64 A xs.length xs := by
  have hl := h.length
  rcases h.own.2 with ⟨rfl, h0⟩ | ⟨g, cap, cur, rfl, h2, h3, _⟩
  · exact ⟨none, 0, by rw [h0], rfl, hl, h.ints, fun hn => by omega⟩
  · refine ⟨_, _, rfl, rfl, hl, h.ints, fun hn => ⟨_, rfl, Lies.lt (t := 3) h3, fun i hi => ?_⟩⟩
    rw [add_head4, h.own.cellAt i (by omega)]
    simp [List.getD, hi]

/-- one or more numbers are appended; the operation may be guarded. -/
theorem wpList_irow_g {ops : Array Oper} {rest : List Oper} {o : Oper} {a : Act} {Q : Exit → Act → World → Prop} {A : Option Addr} {m k : Nat} (h : IRow W B v xs) (hB : B ≤ W.heap.size)
    (hgd : Region.wanted o (yielded ops a.tmps) = true) (s x : Operand) (ho : o.op = .call { callee := .builtin .append, args := #[s, x], argTypes := #[31, 31] })
    (hs : a.eval s = v) (hx : a.eval x = .slice A m k) (hr : Row W .i64 A m ys) (hm : 0 < m) (hM : xs.length + m ≤ 100000)
    (hK : ∀ v' w', IRow w' B v' (xs ++ ys) → Below B W w' → W.grownBy w' v.ownBlock → wpList Try.prog ops Q rest (a.put o.dst v') w') : wpList Try.prog ops Q (o :: rest) a W := by
  obtain ⟨i0, hi0, hz0, hz1, hz2⟩ := info_parts int_info4
  obtain ⟨ad, rfl, hab, hcell⟩ := hr.at_ hm
  have hyl := hr.len
  refine wpList_step fun K hK0 => ?_
  rw [if_pos hgd]
  refine wp_append_own W s x 31 ho B 3 i0 _ 1 8 Try.underlying31 hi0 hz0 hz1 hz2 rfl (by omega) v xs.length (xs.map (Value.int .i64)) hs h.own ad m k (ys.map (Value.int .i64)) hx (by simp [hyl]) ?_ ?_ (by simp only [maxLen]; omega) (by omega) hB ?_
  · intro j u hu
    rw [List.getElem?_map] at hu
    obtain ⟨y, hy, rfl⟩ := Option.map_eq_some_iff.1 hu
    have hj : j < m := by rw [← hyl]; exact (List.getElem?_eq_some_iff.1 hy).1
    rw [hcell j hj]
    simp [List.getD, hy]
  · intro u hu
    obtain ⟨j, _, rfl⟩ := List.mem_map.1 hu
    rfl
  · intro v' w' h1 h2 _
    rw [← List.map_append, ← hyl, ← List.length_append] at h1
    exact hK0 _ _ (hK v' w' ⟨h1, h.ints.app hr.wf⟩ ((Below.refl _ _).grown h2 hB (fun k hk => (h.lt k hk).1)) h2)

/-- one or more numbers are appended. -/
theorem wpList_irow {ops : Array Oper} {rest : List Oper} {o : Oper} {a : Act} {Q : Exit → Act → World → Prop} {A : Option Addr} {m k : Nat} (h : IRow W B v xs) (hB : B ≤ W.heap.size)
    (hgd : o.guard = none) (s x : Operand) (ho : o.op = .call { callee := .builtin .append, args := #[s, x], argTypes := #[31, 31] })
    (hs : a.eval s = v) (hx : a.eval x = .slice A m k) (hr : Row W .i64 A m ys) (hm : 0 < m) (hM : xs.length + m ≤ 100000)
    (hK : ∀ v' w', IRow w' B v' (xs ++ ys) → Below B W w' → W.grownBy w' v.ownBlock → wpList Try.prog ops Q rest (a.put o.dst v') w') : wpList Try.prog ops Q (o :: rest) a W :=
  wpList_irow_g h hB (by simp only [Region.wanted, hgd]) s x ho hs hx hr hm hM hK

/-- a slice that is made within a call that began at w. -/
structure Out (w : World) (v : Value) (xs : List Int) (W : World) : Prop where
  row : IRow W w.heap.size v xs
  be : Below w.heap.size w W

/-- one number more. -/
theorem wpList_out {w : World} {n : Int} {ops : Array Oper} {rest : List Oper} {o : Oper} {a : Act} {Q : Exit → Act → World → Prop} (h : Out w v xs W) (hn : (Lit.int .i64 n).wf = true) (hl : xs.length ≤ 10000)
    (hgd : Region.wanted o (yielded ops a.tmps) = true) (s x : Operand) (ho : o.op = .call { callee := .builtin .append, args := #[s, x], argTypes := #[31, 31] })
    (hs : a.eval s = v) (hx : a.eval x = .slice (some ⟨W.heap.size, 0, none⟩) 1 1)
    (hK : ∀ v' w', Out w v' (xs ++ [n]) w' → wpList Try.prog ops Q rest (a.put o.dst v') w') : wpList Try.prog ops Q (o :: rest) a (W.alloc (.cells #[.int .i64 n] 3)) := by
  have hL := IRow.lit W (B := w.heap.size) [n] #[.int .i64 n] rfl h.be.size (Ints.one hn) (by simp)
  obtain ⟨A, cp, e, hr⟩ := hL.row
  injection e with e1 _ _
  subst e1
  refine wpList_irow_g (h.row.alloc _) (by have := h.be.size; simp; omega) hgd s x ho hs hx hr (by simp) (by simp; omega) ?_
  intro v' w' k1 k2 _
  exact hK v' w' ⟨k1, (h.be.alloc h.be.size _).trans k2⟩

/-- nothing is appended, to a slice that isn't nil. -/
theorem wpList_irow_zero {P : Program} {w : World} {ops : Array Oper} {rest : List Oper} {o : Oper} {a : Act} {Q : Exit → Act → World → Prop} (hgd : o.guard = none) (s x : Operand) (t : TypeId)
    (ho : o.op = .call { callee := .builtin .append, args := #[s, x], argTypes := #[t, t] })
    (e : TypeId) (i : TypeInfo) (ht : P.underlying t = some (.slice e)) (hi : P.info? e = some i)
    (g : Addr) (m k : Nat) (A : Option Addr) (l c : Nat) (hl : l = 0) (hmk : m ≤ k) (hs : a.eval s = .slice (some g) m k) (hx : a.eval x = .slice A l c)
    (h : wpList P ops Q rest (a.put o.dst (.slice (some g) m k)) w) : wpList P ops Q (o :: rest) a w := by
  subst hl
  refine wpList_plain hgd fun K hK => ?_
  have hrun : (Builtin.append_ #[t, t] o.type #[.slice (some g) m k, .slice A 0 c]).run P w = .ok (.slice (some g) m k) w := by
    cases A <;> simp [Builtin.append_, run_underlying ht, sizeOf, typeInfo, hi, Builtin.lenOf, Builtin.firstCells, hmk, storeCells, loadCells, loadCellsFrom]
  unfold Oper.wp
  simp [execOp, ho, resolve, invoke, builtin, hs, hx, hrun, Result.andThen]
  exact hK _ _ h
end

end Go.Proofs.Ythjbmaeoogophaa

/- Layer 8's workers as a machine. -/
namespace Go.Proofs.Ythjbmaeoogophaa
open Go.RowKit
set_option maxRecDepth 100000

/-- an arena's numbers and accesses; what workers hold, what they were told, and their marks. -/
structure SSt where
  l : List Int
  k : Int
  hs : Nat → List Int
  gt : Nat → List Int
  bu : Nat → Bool
  ba : Nat → Bool
  wr : Nat → Bool

/-- what an act is about: to read the head, the link (of a head that was read), to turn the head; the same of a Push. -/
inductive Mic
  | done
  | popR
  | popN (o : Int)
  | popT (o y : Int)
  | pushR (i : Int)
  | pushS (i o : Int)
  | pushT (i o : Int)

/-- a worker's program: which one, what is to be done next, what behind it. -/
structure SPr where
  j : Nat
  m : Mic
  l : List Bool

/-- behind a Pop, behind a Push. -/
def SSt.popped (s : SSt) (g : Bool) (j : Nat) (i : Int) (ok : Bool) : SSt :=
  { s with wr := updF s.wr j (s.wr j || (!ok && !s.ba j) || (ok != decide (0 ≤ i))), bu := updF s.bu j false, gt := if g = true then updF s.gt j (s.gt j ++ [i]) else s.gt, hs := if ok = true then updF s.hs j (s.hs j ++ [i]) else s.hs }
def SSt.pushed (s : SSt) (j : Nat) : SSt := { s with hs := updF s.hs j (s.hs j).dropLast }
/-- the next act is begun. -/
def startS (j : Nat) : List Bool → SSt → SPr × SSt
  | [], s => (⟨j, .done, []⟩, s)
  | true :: l, s => (⟨j, .popR, l⟩, { s with bu := updF s.bu j true, ba := updF s.ba j false })
  | false :: l, s => match (s.hs j).getLast? with
    | none => startS j l s
    | some i => (⟨j, .pushR i, l⟩, s)

/-- where all lies: the arena, workers, what they were told; how many things there are, and workers. -/
structure SP where
  p : Nat
  c : Nat
  B : Nat
  n : Nat
  nw : Nat
  wb : Nat → Nat
  gp : Nat → Option Nat
  /-- blocks that the law writes between steps. -/
  ex : List Nat

/-- the numbers of a stack of n things. -/
structure SOk (n : Nat) (l : List Int) : Prop where
  len : l.length = n + 1
  head : N64 (getA l 0) ∧ hIx (getA l 0) < n
  link : ∀ i : Nat, i < n → getA l ((i : Int) + 1) ≤ n

def SP.gotV (P : SP) (j : Nat) : Value := match P.gp j with
  | none => .pointer none
  | some g => ptr g
def SP.has (P : SP) (j : Nat) : Bool := (P.gp j).isSome
/-- the cells that tell rows. -/
def SP.ws (P : SP) : List Addr := (List.range P.nw).map (fun j => ⟨P.wb j, 0, none⟩) ++ (List.range P.nw).filterMap (fun j => (P.gp j).map fun g => ⟨g, 0, none⟩)
def SP.L (P : SP) : List Nat := P.p :: P.c :: ((List.range P.nw).map P.wb ++ (List.range P.nw).filterMap P.gp)

def intVs (xs : List Int) : List Value := xs.map (Value.int .i64)

/-- the state in memory. -/
structure SI (P : SP) (r : Nat) (s : SSt) (w : World) : Prop where
  ar : Arena w P.p P.c s.l s.k
  room : s.k + r ≤ 4611686018427387904
  ok : SOk P.n s.l
  wk : ∀ j, j < P.nw → ∃ v, Lies w (P.wb j) 34 #[v, P.gotV j, .bool (s.bu j), .bool (s.ba j), .bool (s.wr j)] ∧ w.ownsRow P.B 3 1 v (s.hs j).length (intVs (s.hs j))
  gt : ∀ j g, j < P.nw → P.gp j = some g → ∃ v, Lies w g 31 #[v] ∧ w.ownsRow P.B 3 1 v (s.gt j).length (intVs (s.gt j))
  hb : ∀ j, j < P.nw → ∀ i, i ∈ s.hs j → 0 ≤ i ∧ i < P.n
  size : ∀ j, j < P.nw → (s.hs j).length + r ≤ 5000 ∧ (s.gt j).length + r ≤ 5000
  apart : ∀ a b, a ∈ P.ws → b ∈ P.ws → a ≠ b → ∀ g o n c o' n' c', w.cell? a = some (.slice (some ⟨g, o, none⟩) n c) → w.cell? b ≠ some (.slice (some ⟨g, o', none⟩) n' c')
  exl : ∀ b, b ∈ P.ex → b < w.heap.size

def skStep (P : SP) (q : SPr) (s : SSt) : SPr × SSt :=
  match q.m with
  | .done => (q, s)
  | .popR => if hIx (getA s.l 0) = -1 then startS q.j q.l (({ s with k := moreA s.l 0 s.k } : SSt).popped (P.has q.j) q.j (-1) false) else (⟨q.j, .popN (getA s.l 0), q.l⟩, { s with k := moreA s.l 0 s.k })
  | .popN o => (⟨q.j, .popT o (nxOf (getA s.l (hIx o + 1))), q.l⟩, { s with k := moreA s.l (hIx o + 1) s.k })
  | .popT o y => if casB s.l 0 o = true then startS q.j q.l (({ s with l := casA s.l 0 o (newH o y), k := moreA s.l 0 s.k } : SSt).popped (P.has q.j) q.j (hIx o) true) else (⟨q.j, .popR, q.l⟩, { s with l := casA s.l 0 o (newH o y), k := moreA s.l 0 s.k })
  | .pushR i => (⟨q.j, .pushS i (getA s.l 0), q.l⟩, { s with k := moreA s.l 0 s.k })
  | .pushS i o => (⟨q.j, .pushT i o, q.l⟩, { s with l := setA s.l (i + 1) (hIx o + 1), k := moreA s.l (i + 1) s.k })
  | .pushT i o => if casB s.l 0 o = true then startS q.j q.l (({ s with l := casA s.l 0 o (newH o i), k := moreA s.l 0 s.k } : SSt).pushed q.j) else (⟨q.j, .pushR i, q.l⟩, { s with l := casA s.l 0 o (newH o i), k := moreA s.l 0 s.k })

def SM (P : SP) : Gm SSt SPr where
  ended q := match q.m with
    | .done => true
    | _ => false
  step := skStep P
  W q s := match q.m with
    | .pushR _ => s.hs q.j ≠ []
    | .pushS _ _ => s.hs q.j ≠ []
    | .pushT _ _ => s.hs q.j ≠ []
    | _ => True
  I := SI P
  J r s w := SI P r s w ∧ ∀ j, j < P.nw → (s.hs j).length + r + 1 ≤ 5000 ∧ (s.gt j).length + r + 1 ≤ 5000
  B := P.B
  L := P.L
  ws := P.ws
  X := P.ex

/-- what is asked of the blocks. -/
structure SP.Good (P : SP) : Prop where
  low : P.B ≤ P.p ∧ P.B ≤ P.c ∧ (∀ j, j < P.nw → P.B ≤ P.wb j) ∧ ∀ j g, j < P.nw → P.gp j = some g → P.B ≤ g
  inj : ∀ i j, i < P.nw → j < P.nw → P.wb i = P.wb j → i = j
  ginj : ∀ i j g, i < P.nw → j < P.nw → P.gp i = some g → P.gp j = some g → i = j
  sep : P.p ≠ P.c ∧ (∀ j, j < P.nw → P.wb j ≠ P.p ∧ P.wb j ≠ P.c) ∧ (∀ j g, j < P.nw → P.gp j = some g → g ≠ P.p ∧ g ≠ P.c) ∧ ∀ i j g, i < P.nw → j < P.nw → P.gp j = some g → P.wb i ≠ g
  few : P.n ≤ 1000

section
variable {P : SP}
theorem SP.ws_mem {a : Addr} : a ∈ P.ws ↔ (∃ j, j < P.nw ∧ a = ⟨P.wb j, 0, none⟩) ∨ ∃ j g, j < P.nw ∧ P.gp j = some g ∧ a = ⟨g, 0, none⟩ := by
  unfold SP.ws
  rw [List.mem_append, List.mem_map, List.mem_filterMap]
  constructor
  · rintro (⟨j, hj, rfl⟩ | ⟨j, hj, he⟩)
    · exact .inl ⟨j, List.mem_range.1 hj, rfl⟩
    · obtain ⟨g, hg, rfl⟩ := Option.map_eq_some_iff.1 he
      exact .inr ⟨j, g, List.mem_range.1 hj, hg, rfl⟩
  · rintro (⟨j, hj, rfl⟩ | ⟨j, g, hj, hg, rfl⟩)
    · exact .inl ⟨j, List.mem_range.2 hj, rfl⟩
    · exact .inr ⟨j, List.mem_range.2 hj, by rw [hg]; rfl⟩
theorem SP.L_mem {b : Nat} : b ∈ P.L ↔ b = P.p ∨ b = P.c ∨ (∃ j, j < P.nw ∧ P.wb j = b) ∨ ∃ j, j < P.nw ∧ P.gp j = some b := by
  unfold SP.L
  simp only [List.mem_cons, List.mem_append, List.mem_map, List.mem_filterMap, List.mem_range]
theorem own_lies {w : World} {B : Nat} {v : Value} {n : Nat} {xs : List Value} {g o m c : Nat} (h : w.ownsRow B 3 1 v n xs) (e : v = .slice (some ⟨g, o, none⟩) m c) : B ≤ g ∧ ∃ cur, Lies w g 3 cur := by
  rcases h.2 with ⟨h0, _⟩ | ⟨g', cap, cur, hv, hb, hg, _⟩
  · rw [h0] at e; cases e
  · rw [hv] at e
    injection e with e
    injection e with e
    injection e with e
    subst e
    exact ⟨hb, cur, hg⟩
theorem own_keep {w w' : World} {B : Nat} {v : Value} {n : Nat} {xs : List Value} (h : w.ownsRow B 3 1 v n xs) (k : ∀ g, v.ownBlock = some g → w'.heap[g]? = w.heap[g]?) : w'.ownsRow B 3 1 v n xs := by
  refine ⟨h.1, ?_⟩
  rcases h.2 with h1 | ⟨g, cap, cur, h1, h2, h3, h4⟩
  · exact .inl h1
  · exact .inr ⟨g, cap, cur, h1, h2, (k g (by rw [h1]; rfl)).trans h3, h4⟩
theorem own_block {w : World} {B : Nat} {v : Value} {n : Nat} {xs : List Value} {g : Nat} (h : w.ownsRow B 3 1 v n xs) (e : v.ownBlock = some g) : B ≤ g ∧ ∃ cur, Lies w g 3 cur := by
  rcases h.2 with ⟨rfl, _⟩ | ⟨g', cap, cur, rfl, hb, hg, _⟩
  · cases e
  · simp [Value.ownBlock] at e
    subst e
    exact ⟨hb, cur, hg⟩

/-- a row's cell, and what it tells. -/
theorem SI.row {r : Nat} {s : SSt} {w : World} (h : SI P r s w) {a : Addr} (ha : a ∈ P.ws) : ∃ v n xs, w.cell? a = some v ∧ w.ownsRow P.B 3 1 v n xs := by
  rcases SP.ws_mem.1 ha with ⟨j, hj, rfl⟩ | ⟨j, g, hj, hg, rfl⟩
  · obtain ⟨v, hl, ho⟩ := h.wk j hj
    exact ⟨v, _, _, hl.cell 0, ho⟩
  · obtain ⟨v, hl, ho⟩ := h.gt j g hj hg
    exact ⟨v, _, _, hl.cell 0, ho⟩
theorem SI.rw {r : Nat} {s : SSt} {w : World} (h : SI P r s w) {b : Nat} (hb : Rw P.ws w b) : P.B ≤ b ∧ ∃ cur, Lies w b 3 cur := by
  obtain ⟨a, ha, o, n, c, e⟩ := hb
  obtain ⟨v, n', xs, hc, ho⟩ := h.row ha
  rw [hc] at e
  injection e with e
  exact own_lies ho e

/-- worlds in which nothing of the state's own has turned. -/
theorem SI.keep {r : Nat} {s : SSt} {w w' : World} (h : SI P r s w) (k : ∀ b, b < w.heap.size → (b ∈ P.L ∨ Rw P.ws w b) → w'.heap[b]? = w.heap[b]?) (ksz : w.heap.size ≤ w'.heap.size) : SI P r s w' := by
  have kl : ∀ {b : Nat} {t : TypeId} {cs : Array Value}, b ∈ P.L → Lies w b t cs → Lies w' b t cs := fun hb hl => (k _ hl.lt (.inl hb)).trans hl
  have lw : ∀ j, j < P.nw → P.wb j ∈ P.L := fun j hj => SP.L_mem.2 (.inr (.inr (.inl ⟨j, hj, rfl⟩)))
  have lg : ∀ j g, j < P.nw → P.gp j = some g → g ∈ P.L := fun j g hj hg => SP.L_mem.2 (.inr (.inr (.inr ⟨j, hj, hg⟩)))
  have cl : ∀ a, a ∈ P.ws → w'.cell? a = w.cell? a := fun a ha => by
    refine World.cell?_of_block (w := w) (k _ ?_ (.inl ?_))
    · rcases SP.ws_mem.1 ha with ⟨j, hj, rfl⟩ | ⟨j, g, hj, hg, rfl⟩
      · obtain ⟨v, hl, _⟩ := h.wk j hj; exact hl.lt
      · obtain ⟨v, hl, _⟩ := h.gt j g hj hg; exact hl.lt
    · rcases SP.ws_mem.1 ha with ⟨j, hj, rfl⟩ | ⟨j, g, hj, hg, rfl⟩
      · exact lw j hj
      · exact lg j g hj hg
  have ow : ∀ {a : Addr} {v : Value} {n : Nat} {xs : List Value}, a ∈ P.ws → w.cell? a = some v → w.ownsRow P.B 3 1 v n xs → w'.ownsRow P.B 3 1 v n xs := fun ha hc ho => own_keep ho fun g hg => by
    obtain ⟨_, cur, hl⟩ := own_block ho hg
    refine k g hl.lt (.inr ?_)
    rcases ho.2 with ⟨rfl, _⟩ | ⟨g', cap, cur, rfl, _, _, _⟩
    · cases hg
    · simp [Value.ownBlock] at hg
      subst hg
      exact ⟨_, ha, _, _, _, hc⟩
  refine ⟨⟨kl (SP.L_mem.2 (.inl rfl)) h.ar.head, kl (SP.L_mem.2 (.inr (.inl rfl))) h.ar.body, h.ar.pos, h.ar.most, h.ar.fit, h.ar.k0⟩, h.room, h.ok, fun j hj => ?_, fun j g hj hg => ?_, h.hb, h.size, fun a b ha hb hab g o n c o' n' c' e => ?_, fun b hb => Nat.lt_of_lt_of_le (h.exl b hb) ksz⟩
  · obtain ⟨v, hl, ho⟩ := h.wk j hj
    exact ⟨v, kl (lw j hj) hl, ow (SP.ws_mem.2 (.inl ⟨j, hj, rfl⟩)) (hl.cell 0) ho⟩
  · obtain ⟨v, hl, ho⟩ := h.gt j g hj hg
    exact ⟨v, kl (lg j g hj hg) hl, ow (SP.ws_mem.2 (.inr ⟨j, g, hj, hg, rfl⟩)) (hl.cell 0) ho⟩
  · rw [cl a ha] at e
    rw [cl b hb]
    exact h.apart a b ha hb hab g o n c o' n' c' e

theorem int_not_loose : (3 : TypeId) ∉ loose := by decide
theorem worker_not_loose : (34 : TypeId) ∉ loose := by decide
theorem got_not_loose : (31 : TypeId) ∉ loose := by decide

theorem IsTask.ne {B : Nat} {w : World} {b : Nat} {t : TypeId} {cs : Array Value} (h : IsTask B w b) (l : Lies w b t cs) (ht : t ∉ loose) : False := by
  obtain ⟨_, t', ds, hl, hd⟩ := h
  unfold Lies at l hd
  rw [l] at hd
  injection hd with hd
  injection hd with _ hd
  subst hd
  exact ht hl

theorem SI.tasks {P : SP} {r : Nat} {s : SSt} {w w' : World} (k : Mv P.B [] [] w w') (h : SI P r s w) : SI P r s w' := by
  refine SI.keep h (fun b hb hm => ?_) k.size
  have lies : ∃ t cs, Lies w b t cs ∧ t ∉ loose := by
    rcases hm with hm | hm
    · rcases SP.L_mem.1 hm with rfl | rfl | ⟨j, hj, rfl⟩ | ⟨j, hj, hg⟩
      · exact ⟨_, _, h.ar.head, by decide⟩
      · exact ⟨_, _, h.ar.body, by decide⟩
      · obtain ⟨v, hl, _⟩ := h.wk j hj; exact ⟨_, _, hl, worker_not_loose⟩
      · obtain ⟨v, hl, _⟩ := h.gt j b hj hg; exact ⟨_, _, hl, got_not_loose⟩
    · obtain ⟨_, cur, hl⟩ := h.rw hm
      exact ⟨_, _, hl, int_not_loose⟩
  obtain ⟨t, cs, hl, ht⟩ := lies
  rcases k.block b hb (by simp) (by rintro ⟨a, ha, _⟩; cases ha) with e | e
  · exact e
  · exact (e.ne hl ht).elim

theorem sm_ok (P : SP) (hG : P.Good) : (SM P).Ok where
  less r s w h := ⟨h.ar, by have := h.room; omega, h.ok, h.wk, h.gt, h.hb, fun j hj => by have := h.size j hj; omega, h.apart, h.exl⟩
  task r s w w' k h := SI.tasks k h
  ji r s w h := h.1
  jtask r s w w' k h := ⟨SI.tasks k h.1, h.2⟩
  idle r s w h := ⟨⟨h.ar, by have := h.room; omega, h.ok, h.wk, h.gt, h.hb, fun j hj => by have := h.size j hj; omega, h.apart, h.exl⟩, fun j hj => by have := SI.size h j hj; omega⟩
  okw r s w h := by
    refine ⟨fun b hb => ?_, h.exl, ?_, fun b hb => ?_⟩
    · rcases SP.L_mem.1 hb with rfl | rfl | ⟨j, hj, rfl⟩ | ⟨j, hj, hg⟩
      · exact h.ar.head.lt
      · exact h.ar.body.lt
      · obtain ⟨v, hl, _⟩ := h.wk j hj; exact hl.lt
      · obtain ⟨v, hl, _⟩ := h.gt j b hj hg; exact hl.lt
    · have := h.ar.head.lt
      have := hG.low.1
      show P.B ≤ _
      omega
    · obtain ⟨h1, cur, hl⟩ := h.rw hb
      exact ⟨h1, hl.lt⟩
  low b hb := by
    obtain ⟨l1, l2, l3, l4⟩ := hG.low
    rcases SP.L_mem.1 hb with rfl | rfl | ⟨j, hj, rfl⟩ | ⟨j, hj, hg⟩
    · exact l1
    · exact l2
    · exact l3 j hj
    · exact l4 j b hj hg
  cells a ha := by
    rcases SP.ws_mem.1 ha with ⟨j, hj, rfl⟩ | ⟨j, g, hj, hg, rfl⟩
    · exact SP.L_mem.2 (.inr (.inr (.inl ⟨j, hj, rfl⟩)))
    · exact SP.L_mem.2 (.inr (.inr (.inr ⟨j, hj, hg⟩)))
end

end Go.Proofs.Ythjbmaeoogophaa
