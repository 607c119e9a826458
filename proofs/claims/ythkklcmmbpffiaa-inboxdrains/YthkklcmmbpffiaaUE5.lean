/- The law's way to tell that a ticket is dead. -/
import Derived.Test.YthkklcmmbpffiaaUE4
import Derived.Handy
import Derived.BigRegion
namespace Go.Proofs.Ythkklcmmbpffiaa
open Go.RowKit
set_option maxRecDepth 100000

theorem ent_dead9 : Ent 47 := ent_of Try.func47 (by kernel_rfl) (by kernel_rfl)
theorem ent_dead91 : Ent 49 := ent_of Try.func49 (by kernel_rfl) (by kernel_rfl)

section
variable {St Pr : Type} {M : Gm St Pr} {m f b : Nat} {cap : Array Value} {w : World} {qN qS : Pr}
theorem dead91_g (hE : Ent f) (x0 : M.Bx w b 103 #[.func (.func f) #[] cap]) (hT : M.Cont m f cap w (fun (_ : Bool) _ => True) (fun b => #[.bool b]) (fun b s => (if b = true then qN else qS, s))) :
    M.Cont m 49 #[ptr b] w (fun x _ => N64 x ∧ True) (fun x => #[.int .u64 x]) (fun x s => (if x = 1 then qN else qS, s)) := by
  intro n hn x w' s r hm hj _
  have c0 := (x0.mv hm).cell
  have ht : M.Then f (#[.bool (decide (x = 1))] ++ cap) w' fun v w'' => M.I r s w'' ∧ M.Code n (if x = 1 then qN else qS) v w'' := by
    have h := hT n hn (decide (x = 1)) w' s r hm hj trivial
    simpa using h
  clear hT hj hm x0
  show M.Then _ #[.int .u64 x, ptr b] w' (fun v w'' => M.I r s w'' ∧ M.Code n (if x = 1 then qN else qS) v w'')
  generalize (if x = 1 then qN else qS) = q at *
  have hb : (x == 1) = decide (x = 1) := by by_cases h : x = 1 <;> simp [h]
  by_cases h1 : x = 1
  · subst h1
    simp only [decide_true] at ht
    clear hb
    unfold Gm.Then Ent at *
    go_enter Try.func49, Try.ntmps49
    go_wp2_with fail
    refine ht.mono ?_
    rintro e w2 ⟨v, rfl, hq, t2⟩
    go_wp2
    go_ret
    exact ⟨v, rfl, hq, t2⟩
  · simp only [h1, decide_false] at ht hb
    unfold Gm.Then Ent at *
    go_enter Try.func49, Try.ntmps49
    go_wp2_with fail
    refine ht.mono ?_
    rintro e w2 ⟨v, rfl, hq, t2⟩
    go_wp2
    go_ret
    exact ⟨v, rfl, hq, t2⟩
end

theorem bm_dead (P : BP) (hG : P.Good) {w : World} {ba bn : Nat} (l : List Int) (n : Nat) (xa : (BM P).Bx w ba 24 #[ptr P.p]) (xn : (BM P).Bx w bn 3 #[.int .i64 (P.n : Int)]) :
    (BM P).DeadOk w 47 #[ptr ba, ptr bn] (fun o => hIx o < P.n) (fun o => ⟨.pD o, l, n⟩) (fun o => ⟨.pS o, l, n⟩) (fun o => ⟨.pN o, l, n⟩) := by
  refine ⟨ent_dead9, fun m o w' f cap hm hw _ ho hz hE hT => ?_⟩
  have hM := bm_ok P hG
  have hi := hIx_ix hz
  have k0 : Turns [] w' (w'.alloc (.cells #[.func (.func f) #[] cap] 103)) := (Turns.refl _ _).alloc _
  have l0 : Lies (w'.alloc (.cells #[.func (.func f) #[] cap] 103)) w'.heap.size 103 #[.func (.func f) #[] cap] := Lies.new _ _ _
  have h2 := hw.mv hM k0
  have d0 := ((xa.mv hm).mv h2).cell
  have e0 := ((xn.mv hm).mv h2).cell
  have hl := load_g (q := ⟨.pD o, l, n⟩) (i := hIx o + (2 + P.n)) (f := 49) (cap := #[ptr w'.heap.size]) (bmAr P hG) hM (V := fun _ _ => True) (fun _ _ _ => trivial) (T := fun x s => (if x = 1 then ⟨.pN o, l, n⟩ else ⟨.pS o, l, n⟩, s)) ent_dead91 (hw.made hM k0) rfl (dead91_g hE (hw.box hM k0 (Nat.le_refl _) l0 (by decide)) (hT.mv h2)) (fun s => rfl)
  have hf := hG.few
  have e1 : hIx o + (2 + (P.n : Int)) = 2 + P.n + hIx o := by omega
  rw [e1] at hl
  have hmf := hmf_run
  clear hT hw h2 l0 hz xa xn hm e1
  show (BM P).Makes m (⟨.pD o, l, n⟩ : BPr) 47 #[.int .i64 (hIx o), .func (.func f) #[] cap, ptr ba, ptr bn] w'
  generalize (⟨.pD o, l, n⟩ : BPr) = q at *
  generalize hIx o = y at *
  unfold Ix at hi
  have hw1 : IntKind.i64.wrap (2 + (P.n : Int)) = 2 + P.n := by rw [IntKind.wrap_i64]; omega
  have hw2 : IntKind.i64.wrap (2 + (P.n : Int) + y) = 2 + P.n + y := by rw [IntKind.wrap_i64]; omega
  unfold Gm.Makes Ent at *
  go_enter Try.func47, Try.ntmps47
  go_wp2_with fail
  refine hl.mono ?_
  rintro e w2 ⟨v, rfl, hc, t2⟩
  go_wp2
  go_ret
  exact ⟨v, rfl, hc, k0.trans t2⟩

end Go.Proofs.Ythkklcmmbpffiaa

/- A box without tickets. -/
namespace Go.Proofs.Ythkklcmmbpffiaa
open Go.RowKit
set_option maxRecDepth 100000

set_option maxHeartbeats 1000000 in
theorem fresh9_any (n : Nat) (hn : n ≤ 1000) (w : World) :
    Calls Try.prog 28 #[.int .i64 n] w fun e w' => ∃ p c bn ba, e = .returned (.tuple #[bxV p 0 1 46 47 #[] #[ptr ba, ptr bn], .bool true]) ∧ Arena w' p c (List.replicate (2 + 2 * n) 0) 0 ∧ Below w.heap.size w w' ∧ w.heap.size ≤ c ∧ c < p ∧
      w.heap.size ≤ bn ∧ w.heap.size ≤ ba ∧ Lies w' ba 24 #[ptr p] ∧ Lies w' bn 3 #[.int .i64 (n : Int)] := by
  have hmf := hmf_run
  have y2 := fun (a : Addr) (f : FuncId) (c : Array Value) (w : World) => run_store Try.prog w a (.func (.func f) #[] c) .plain rfl
  have hw1 : IntKind.i64.wrap (2 * (n : Int)) = 2 * n := by rw [IntKind.wrap_i64]; omega
  have hw2 : IntKind.i64.wrap (2 + 2 * (n : Int)) = 2 + 2 * n := by rw [IntKind.wrap_i64]; omega
  obtain ⟨W2, hW2⟩ : ∃ W2, ((w.alloc (.cells #[.int .i64 (n : Int)] 3)).alloc (.cells #[.pointer none, .int .i64 0, .nilFunc, .nilFunc, .pointer none, .int .i64 0, .nilFunc] 62)) = W2 := ⟨_, rfl⟩
  have k2 : Turns [] w W2 := by rw [← hW2]; exact ((Turns.refl _ _).alloc _).alloc _
  have z2 : W2.heap.size = w.heap.size + 1 + 1 := by rw [← hW2]; simp
  have l0 : Lies W2 w.heap.size 3 #[.int .i64 (n : Int)] := by rw [← hW2]; exact (Lies.new _ _ _).alloc _
  have l1 : Lies W2 (w.heap.size + 1) 62 #[.pointer none, .int .i64 0, .nilFunc, .nilFunc, .pointer none, .int .i64 0, .nilFunc] := by rw [← hW2]; exact Lies.new_of _ _ (by simp)
  have hm := new_any (2 + 2 * n) W2 (by omega) (by omega)
  have e1 : ((2 + 2 * n : Nat) : Int) = 2 + 2 * (n : Int) := by omega
  rw [e1] at hm
  have c0 := l0.cell 0
  simp at c0
  clear e1
  go_enter Try.func28, Try.ntmps28
  go_upto_region 1 with (fail)
  try rw [hW2]
  clear hW2
  go_wp2_with fail
  refine (show Calls Try.prog 37 #[.int .i64 (2 + 2 * (n : Int))] _ _ from hm).mono ?_
  rintro e w3 ⟨rfl, h1, h2, h3⟩
  have ut : W2.heap.size ≤ w3.heap.size := h2.size
  have pl := h1.head.lt
  obtain ⟨p, hp⟩ : ∃ p, W2.heap.size + 1 = p := ⟨_, rfl⟩
  obtain ⟨u, hu⟩ : ∃ u, w3.heap.size = u := ⟨_, rfl⟩
  rw [hp] at h1 pl
  rw [hp]
  obtain ⟨W5, hW5⟩ : ∃ W5, ((w3.alloc (.cells #[ptr p] 24)).alloc (.cells #[ptr p, .int .i64 1, .func (.func 46) #[] #[]] 27)) = W5 := ⟨_, rfl⟩
  have k5 : Turns [] w3 W5 := by rw [← hW5]; exact ((Turns.refl _ _).alloc _).alloc _
  have la : Lies W5 u 24 #[ptr p] := by rw [← hW5]; exact (Lies.new_of _ _ (by rw [hu])).alloc _
  have lf : Lies W5 (u + 1) 27 #[ptr p, .int .i64 1, .func (.func 46) #[] #[]] := by rw [← hW5]; exact Lies.new_of _ _ (by simp [hu])
  have lb5 := (l1.below h2 (by omega)).turn k5 (by simp)
  have ln5 := (l0.below h2 (by omega)).turn k5 (by simp)
  have ha5 := h1.turn k5 (by simp) (by simp)
  have b5 : Below w.heap.size w W5 := ((k2.below (by simp) (Nat.le_refl _)).trans (h2.mono (by omega))).trans (k5.below (by simp) (by omega))
  obtain ⟨a0, d0, d1, d2⟩ : W5.cell? ⟨u, 0, none⟩ = some (ptr p) ∧ W5.cell? ⟨u + 1, 0, none⟩ = some (ptr p) ∧ W5.cell? ⟨u + 1, 1, none⟩ = some (.int .i64 1) ∧ W5.cell? ⟨u + 1, 2, none⟩ = some (.func (.func 46) #[] #[]) := ⟨la.cell 0, lf.cell 0, lf.cell 1, lf.cell 2⟩
  clear hm h2 h3 l0 l1 c0 k2 lf k5 h1 hw1 hw2
  go_upto_region 5 with (fail)
  try rw [hu]
  try rw [hW5]
  clear hW5
  obtain ⟨f0, f1, f2, f3, f4, f5, f6⟩ : W5.frozen? ⟨w.heap.size + 1, 0, none⟩ = false ∧ W5.frozen? ⟨w.heap.size + 1, 1, none⟩ = false ∧ W5.frozen? ⟨w.heap.size + 1, 2, none⟩ = false ∧ W5.frozen? ⟨w.heap.size + 1, 3, none⟩ = false ∧ W5.frozen? ⟨w.heap.size + 1, 4, none⟩ = false ∧ W5.frozen? ⟨w.heap.size + 1, 5, none⟩ = false ∧ W5.frozen? ⟨w.heap.size + 1, 6, none⟩ = false := ⟨lb5.frozen 0, lb5.frozen 1, lb5.frozen 2, lb5.frozen 3, lb5.frozen 4, lb5.frozen 5, lb5.frozen 6⟩
  obtain ⟨b0, b1, b2, b3, b4, b5', b6⟩ : W5.cell? ⟨w.heap.size + 1, 0, none⟩ = some (.pointer none) ∧ W5.cell? ⟨w.heap.size + 1, 1, none⟩ = some (.int .i64 0) ∧ W5.cell? ⟨w.heap.size + 1, 2, none⟩ = some (.nilFunc) ∧ W5.cell? ⟨w.heap.size + 1, 3, none⟩ = some (.nilFunc) ∧ W5.cell? ⟨w.heap.size + 1, 4, none⟩ = some (.pointer none) ∧ W5.cell? ⟨w.heap.size + 1, 5, none⟩ = some (.int .i64 0) ∧ W5.cell? ⟨w.heap.size + 1, 6, none⟩ = some (.nilFunc) := ⟨lb5.cell 0, lb5.cell 1, lb5.cell 2, lb5.cell 3, lb5.cell 4, lb5.cell 5, lb5.cell 6⟩
  have lE : Lies (((((((W5.setCell ⟨w.heap.size + 1, 0, none⟩ (ptr p)).setCell ⟨w.heap.size + 1, 1, none⟩ (.int .i64 0)).setCell ⟨w.heap.size + 1, 2, none⟩ (.func (.func 46) #[] #[])).setCell ⟨w.heap.size + 1, 3, none⟩ (.func (.func 47) #[] #[ptr u, ptr w.heap.size])).setCell ⟨w.heap.size + 1, 4, none⟩ (ptr p)).setCell ⟨w.heap.size + 1, 5, none⟩ (.int .i64 1)).setCell ⟨w.heap.size + 1, 6, none⟩ (.func (.func 46) #[] #[])) (w.heap.size + 1) 62 #[ptr p, .int .i64 0, .func (.func 46) #[] #[], .func (.func 47) #[] #[ptr u, ptr w.heap.size], ptr p, .int .i64 1, .func (.func 46) #[] #[]] := by have := (((((((lb5.set 0 (ptr p)).set 1 (.int .i64 0)).set 2 (.func (.func 46) #[] #[])).set 3 (.func (.func 47) #[] #[ptr u, ptr w.heap.size])).set 4 (ptr p)).set 5 (.int .i64 1)).set 6 (.func (.func 46) #[] #[])); simpa using this
  have tu : Turns [w.heap.size + 1] W5 (((((((W5.setCell ⟨w.heap.size + 1, 0, none⟩ (ptr p)).setCell ⟨w.heap.size + 1, 1, none⟩ (.int .i64 0)).setCell ⟨w.heap.size + 1, 2, none⟩ (.func (.func 46) #[] #[])).setCell ⟨w.heap.size + 1, 3, none⟩ (.func (.func 47) #[] #[ptr u, ptr w.heap.size])).setCell ⟨w.heap.size + 1, 4, none⟩ (ptr p)).setCell ⟨w.heap.size + 1, 5, none⟩ (.int .i64 1)).setCell ⟨w.heap.size + 1, 6, none⟩ (.func (.func 46) #[] #[])) := ((((((((Turns.refl [w.heap.size + 1] W5).setCell (p := ⟨w.heap.size + 1, 0, none⟩) (.inl (by simp)) (ptr p)).setCell (p := ⟨w.heap.size + 1, 1, none⟩) (.inl (by simp)) (.int .i64 0)).setCell (p := ⟨w.heap.size + 1, 2, none⟩) (.inl (by simp)) (.func (.func 46) #[] #[])).setCell (p := ⟨w.heap.size + 1, 3, none⟩) (.inl (by simp)) (.func (.func 47) #[] #[ptr u, ptr w.heap.size])).setCell (p := ⟨w.heap.size + 1, 4, none⟩) (.inl (by simp)) (ptr p)).setCell (p := ⟨w.heap.size + 1, 5, none⟩) (.inl (by simp)) (.int .i64 1)).setCell (p := ⟨w.heap.size + 1, 6, none⟩) (.inl (by simp)) (.func (.func 46) #[] #[]))
  clear y2 hmf
  have y2 := fun (a : Addr) (f : FuncId) (c : Array Value) (w : World) => run_store Try.prog w a (.func (.func f) #[] c) .plain rfl
  go_region
  go_wp2
  obtain ⟨W6, hW6⟩ : ∃ W6, (((((((W5.setCell ⟨w.heap.size + 1, 0, none⟩ (ptr p)).setCell ⟨w.heap.size + 1, 1, none⟩ (.int .i64 0)).setCell ⟨w.heap.size + 1, 2, none⟩ (.func (.func 46) #[] #[])).setCell ⟨w.heap.size + 1, 3, none⟩ (.func (.func 47) #[] #[ptr u, ptr w.heap.size])).setCell ⟨w.heap.size + 1, 4, none⟩ (ptr p)).setCell ⟨w.heap.size + 1, 5, none⟩ (.int .i64 1)).setCell ⟨w.heap.size + 1, 6, none⟩ (.func (.func 46) #[] #[])) = W6 := ⟨_, rfl⟩
  rw [hW6] at lE tu
  try rw [hW6]
  clear hW6 y2
  obtain ⟨e0, e1, e2, e3, e4, e5, e6⟩ : W6.cell? ⟨w.heap.size + 1, 0, none⟩ = some (ptr p) ∧ W6.cell? ⟨w.heap.size + 1, 1, none⟩ = some (.int .i64 0) ∧ W6.cell? ⟨w.heap.size + 1, 2, none⟩ = some (.func (.func 46) #[] #[]) ∧ W6.cell? ⟨w.heap.size + 1, 3, none⟩ = some (.func (.func 47) #[] #[ptr u, ptr w.heap.size]) ∧ W6.cell? ⟨w.heap.size + 1, 4, none⟩ = some (ptr p) ∧ W6.cell? ⟨w.heap.size + 1, 5, none⟩ = some (.int .i64 1) ∧ W6.cell? ⟨w.heap.size + 1, 6, none⟩ = some (.func (.func 46) #[] #[]) := ⟨lE.cell 0, lE.cell 1, lE.cell 2, lE.cell 3, lE.cell 4, lE.cell 5, lE.cell 6⟩
  clear b0 b1 b2 b3 b4 b5' b6
  clear f0 f1 f2 f3 f4 f5 f6 a0 d0 d1 d2
  refine bodyPost_ret (v := .tuple #[bxV p 0 1 46 47 #[] #[ptr u, ptr w.heap.size], .bool true]) ?_ rfl ?_
  · clear ha5 b5 la ln5 lb5 lE tu
    simp [results, Try.results28, go_sem, e0, e1, e2, e3, e4, e5, e6]
    try rfl
  have tu := tu.drew
  exact ⟨p, _, w.heap.size, u, rfl, ha5.turn tu (by simp; omega) (by simp; omega), b5.trans (tu.below (by simp) (by have := b5.size; omega)), by omega, by omega, by omega, by omega, la.turn tu (by simp; omega), ln5.turn tu (by simp)⟩

end Go.Proofs.Ythkklcmmbpffiaa

/- The owner's rows grow. -/
namespace Go.Proofs.Ythkklcmmbpffiaa
open Go.RowKit
set_option maxRecDepth 100000

section
variable {P : BP} {r : Nat} {s : BSt} {W w1 : World}
theorem BI.app_got (hG : P.Good) (h : BI P r s W) {v : Value} (hc : W.cell? ⟨P.ob, 0, none⟩ = some v) {g cap : Nat} {i : Int}
    (ho : w1.ownsRow P.B 3 1 (.slice (some ⟨g, 0, none⟩) (s.got.length + 1) cap) (s.got.length + 1) (intVs s.got ++ [.int .i64 i])) (hg : W.grownBy w1 v.ownBlock) (hat : v.ownBlock = some g ∨ W.heap.size ≤ g) (hi : Ix i) (hsz : s.got.length + r + 1 ≤ 5000) :
    BI P r { s with got := s.got ++ [i] } (w1.setCell ⟨P.ob, 0, none⟩ (.slice (some ⟨g, 0, none⟩) (s.got.length + 1) cap)) ∧ Fr P.L P.ws W (w1.setCell ⟨P.ob, 0, none⟩ (.slice (some ⟨g, 0, none⟩) (s.got.length + 1) cap)) := by
  obtain ⟨v0, u, hl, hv, hu, hne⟩ := h.ow
  obtain rfl : v0 = v := by
    have h1 : W.cell? ⟨P.ob, 0, none⟩ = some v0 := hl.cell 0
    rw [h1] at hc
    injection hc
  obtain ⟨_, s2, s3⟩ := hG.sep
  have not_own : ∀ {b : Nat} {ty : TypeId} {cs : Array Value}, Lies W b ty cs → ty ≠ 3 → some b ≠ v0.ownBlock := fun hb hn e => by
    obtain ⟨_, cur, hc⟩ := own_block hv e.symm
    exact hb.unlike hc hn rfl
  have hl1 : Lies w1 P.ob 72 #[v0, u] := (hg.block _ hl.lt (not_own hl (by decide))).trans hl
  obtain ⟨v', hv'⟩ : ∃ v', Value.slice (some ⟨g, 0, none⟩) (s.got.length + 1) cap = v' := ⟨_, rfl⟩
  have hvo : v'.ownBlock = some g := by rw [← hv']; rfl
  rw [hv'] at ho ⊢
  have lX : Lies (w1.setCell ⟨P.ob, 0, none⟩ v') P.ob 72 #[v', u] := by
    have := hl1.set 0 v'
    simpa using this
  have k : ∀ b, b < W.heap.size → some b ≠ v0.ownBlock → b ≠ P.ob → (w1.setCell ⟨P.ob, 0, none⟩ v').heap[b]? = W.heap[b]? := fun b hb hn hne => (Below.heap_setCell w1 ⟨P.ob, 0, none⟩ v' b hne).trans (hg.block b hb hn)
  have keep : ∀ {b : Nat} {ty : TypeId} {cs : Array Value}, Lies W b ty cs → ty ≠ 3 → b ≠ P.ob → Lies (w1.setCell ⟨P.ob, 0, none⟩ v') b ty cs := fun hb hn hne => (k _ hb.lt (not_own hb hn) hne).trans hb
  have hsize : W.heap.size ≤ (w1.setCell ⟨P.ob, 0, none⟩ v').heap.size := by
    have := hg.size
    simpa [World.setCell] using this
  have isv : ∀ b, v0.ownBlock = some b → Rw P.ws W b := fun b hb => by
    rcases hv.2 with ⟨h0, _⟩ | ⟨g', cap', cur, h0, _⟩
    · rw [h0] at hb; cases hb
    · have hb' := hb
      rw [h0] at hb'
      obtain rfl : g' = b := by simpa [Value.ownBlock] using hb'
      exact ⟨⟨P.ob, 0, none⟩, BP.ws_mem.2 (.inl rfl), _, _, _, by rw [hc, h0]⟩
  refine ⟨⟨⟨keep h.ar.head (by decide) s2.symm, keep h.ar.body (by decide) s3.symm, h.ar.pos, h.ar.most, h.ar.fit, h.ar.k0⟩, h.room, h.ok, ⟨v', u, lX, ?_, ?_, fun g' e => ?_⟩, fun y hy => ?_, h.he, ⟨by show (s.got ++ [i]).length + r ≤ 5000; rw [List.length_append]; simp; omega, h.size.2⟩, fun b hb => Nat.lt_of_lt_of_le (h.exl b hb) hsize⟩, ⟨hg.os, hg.tape, hg.output, hsize, fun b hb hn hr => ?_, fun b hb q => ?_⟩⟩
  · show World.ownsRow _ _ _ _ _ (s.got ++ [i]).length (intVs (s.got ++ [i]))
    rw [List.length_append, intVs_snoc]
    refine own_keep ho fun g' hg' => ?_
    obtain ⟨_, cur, hc⟩ := own_block ho hg'
    exact Below.heap_setCell w1 ⟨P.ob, 0, none⟩ v' g' (hc.unlike hl1 (by decide))
  · refine own_keep hu fun g' hg' => ?_
    obtain ⟨_, cur, hc⟩ := own_block hu hg'
    exact k g' hc.lt (fun e => hne g' e.symm hg') (hc.unlike hl (by decide))
  · rw [hvo] at e
    injection e with e
    subst e
    rcases hat with h1 | h1
    · exact hne g h1
    · intro e
      obtain ⟨_, cur, hc⟩ := own_block hu e
      have := hc.lt
      omega
  · have hy : y ∈ s.got ++ [i] := hy
    rcases List.mem_append.1 hy with hy | hy
    · exact h.hg y hy
    · rw [List.mem_singleton] at hy; subst hy; exact hi
  · exact k b hb (fun e => hr (isv b e.symm)) (fun e => hn (BP.L_mem.2 (.inr (.inr e))))
  · obtain ⟨a, ha, o, n, c, e⟩ := q
    rcases BP.ws_mem.1 ha with rfl | rfl
    · rw [show (w1.setCell ⟨P.ob, 0, none⟩ v').cell? ⟨P.ob, 0, none⟩ = some v' from lX.cell 0, ← hv'] at e
      injection e with e
      injection e with e _ _
      injection e with e
      injection e with e _ _
      subst e
      exact isv g (hat.resolve_right (by omega))
    · refine ⟨⟨P.ob, 1, none⟩, ha, o, n, c, ?_⟩
      rw [show (w1.setCell ⟨P.ob, 0, none⟩ v').cell? ⟨P.ob, 1, none⟩ = some u from lX.cell 1] at e
      rw [show W.cell? ⟨P.ob, 1, none⟩ = some u from hl.cell 1]
      exact e
theorem BI.app_ends (hG : P.Good) (h : BI P r s W) {v : Value} (hc : W.cell? ⟨P.ob, 1, none⟩ = some v) {g cap : Nat} {i : Int}
    (ho : w1.ownsRow P.B 3 1 (.slice (some ⟨g, 0, none⟩) (s.ends.length + 1) cap) (s.ends.length + 1) (intVs s.ends ++ [.int .i64 i])) (hg : W.grownBy w1 v.ownBlock) (hat : v.ownBlock = some g ∨ W.heap.size ≤ g) (hi : Ix i) (hsz : s.ends.length + r + 1 ≤ 5000) :
    BI P r { s with ends := s.ends ++ [i] } (w1.setCell ⟨P.ob, 1, none⟩ (.slice (some ⟨g, 0, none⟩) (s.ends.length + 1) cap)) ∧ Fr P.L P.ws W (w1.setCell ⟨P.ob, 1, none⟩ (.slice (some ⟨g, 0, none⟩) (s.ends.length + 1) cap)) := by
  obtain ⟨u, v0, hl, hu, hv, hne0⟩ := h.ow
  have hne : ∀ g, v0.ownBlock = some g → u.ownBlock ≠ some g := fun g e1 e2 => hne0 g e2 e1
  obtain rfl : v0 = v := by
    have h1 : W.cell? ⟨P.ob, 1, none⟩ = some v0 := hl.cell 1
    rw [h1] at hc
    injection hc
  obtain ⟨_, s2, s3⟩ := hG.sep
  have not_own : ∀ {b : Nat} {ty : TypeId} {cs : Array Value}, Lies W b ty cs → ty ≠ 3 → some b ≠ v0.ownBlock := fun hb hn e => by
    obtain ⟨_, cur, hc⟩ := own_block hv e.symm
    exact hb.unlike hc hn rfl
  have hl1 : Lies w1 P.ob 72 #[u, v0] := (hg.block _ hl.lt (not_own hl (by decide))).trans hl
  obtain ⟨v', hv'⟩ : ∃ v', Value.slice (some ⟨g, 0, none⟩) (s.ends.length + 1) cap = v' := ⟨_, rfl⟩
  have hvo : v'.ownBlock = some g := by rw [← hv']; rfl
  rw [hv'] at ho ⊢
  have lX : Lies (w1.setCell ⟨P.ob, 1, none⟩ v') P.ob 72 #[u, v'] := by
    have := hl1.set 1 v'
    simpa using this
  have k : ∀ b, b < W.heap.size → some b ≠ v0.ownBlock → b ≠ P.ob → (w1.setCell ⟨P.ob, 1, none⟩ v').heap[b]? = W.heap[b]? := fun b hb hn hne => (Below.heap_setCell w1 ⟨P.ob, 1, none⟩ v' b hne).trans (hg.block b hb hn)
  have keep : ∀ {b : Nat} {ty : TypeId} {cs : Array Value}, Lies W b ty cs → ty ≠ 3 → b ≠ P.ob → Lies (w1.setCell ⟨P.ob, 1, none⟩ v') b ty cs := fun hb hn hne => (k _ hb.lt (not_own hb hn) hne).trans hb
  have hsize : W.heap.size ≤ (w1.setCell ⟨P.ob, 1, none⟩ v').heap.size := by
    have := hg.size
    simpa [World.setCell] using this
  have isv : ∀ b, v0.ownBlock = some b → Rw P.ws W b := fun b hb => by
    rcases hv.2 with ⟨h0, _⟩ | ⟨g', cap', cur, h0, _⟩
    · rw [h0] at hb; cases hb
    · have hb' := hb
      rw [h0] at hb'
      obtain rfl : g' = b := by simpa [Value.ownBlock] using hb'
      exact ⟨⟨P.ob, 1, none⟩, BP.ws_mem.2 (.inr rfl), _, _, _, by rw [hc, h0]⟩
  refine ⟨⟨⟨keep h.ar.head (by decide) s2.symm, keep h.ar.body (by decide) s3.symm, h.ar.pos, h.ar.most, h.ar.fit, h.ar.k0⟩, h.room, h.ok, ⟨u, v', lX, ?_, ?_, fun g' e2 e => ?_⟩, h.hg, fun y hy => ?_, ⟨h.size.1, by show (s.ends ++ [i]).length + r ≤ 5000; rw [List.length_append]; simp; omega⟩, fun b hb => Nat.lt_of_lt_of_le (h.exl b hb) hsize⟩, ⟨hg.os, hg.tape, hg.output, hsize, fun b hb hn hr => ?_, fun b hb q => ?_⟩⟩
  · refine own_keep hu fun g' hg' => ?_
    obtain ⟨_, cur, hc⟩ := own_block hu hg'
    exact k g' hc.lt (fun e => hne g' e.symm hg') (hc.unlike hl (by decide))
  · show World.ownsRow _ _ _ _ _ (s.ends ++ [i]).length (intVs (s.ends ++ [i]))
    rw [List.length_append, intVs_snoc]
    refine own_keep ho fun g' hg' => ?_
    obtain ⟨_, cur, hc⟩ := own_block ho hg'
    exact Below.heap_setCell w1 ⟨P.ob, 1, none⟩ v' g' (hc.unlike hl1 (by decide))
  · rw [hvo] at e
    injection e with e
    subst e
    rcases hat with h1 | h1
    · exact hne g h1 e2
    · obtain ⟨_, cur, hc⟩ := own_block hu e2
      have := hc.lt
      omega
  · have hy : y ∈ s.ends ++ [i] := hy
    rcases List.mem_append.1 hy with hy | hy
    · exact h.he y hy
    · rw [List.mem_singleton] at hy; subst hy; exact hi
  · exact k b hb (fun e => hr (isv b e.symm)) (fun e => hn (BP.L_mem.2 (.inr (.inr e))))
  · obtain ⟨a, ha, o, n, c, e⟩ := q
    rcases (BP.ws_mem.1 ha).symm with rfl | rfl
    · rw [show (w1.setCell ⟨P.ob, 1, none⟩ v').cell? ⟨P.ob, 1, none⟩ = some v' from lX.cell 1, ← hv'] at e
      injection e with e
      injection e with e _ _
      injection e with e
      injection e with e _ _
      subst e
      exact isv g (hat.resolve_right (by omega))
    · refine ⟨⟨P.ob, 0, none⟩, ha, o, n, c, ?_⟩
      rw [show (w1.setCell ⟨P.ob, 1, none⟩ v').cell? ⟨P.ob, 0, none⟩ = some u from lX.cell 0] at e
      rw [show W.cell? ⟨P.ob, 0, none⟩ = some u from hl.cell 0]
      exact e
end

end Go.Proofs.Ythkklcmmbpffiaa

/- The law's Puts, one behind the other. -/
namespace Go.Proofs.Ythkklcmmbpffiaa
open Go.RowKit
set_option maxRecDepth 100000

theorem ent_puts1 : Ent 51 := ent_of Try.func51 (by kernel_rfl) (by kernel_rfl)

/-- numbers that codes read, and nobody writes. -/
structure IL (P : BP) (w : World) (A : Option Addr) (xs : List Int) : Prop where
  most : xs.length ≤ 100000
  at_ : 0 < xs.length → ∃ a, A = some a ∧ a.block < w.heap.size ∧ a.block ∉ P.L ++ P.ex ∧ ¬ Rw P.ws w a.block ∧ ¬ IsTask P.B w a.block ∧ ∀ i, i < xs.length → w.cell? (a.add i) = some (.int .i64 (xs.getD i 0))
section
variable {P : BP} {w w' : World} {A : Option Addr} {xs : List Int}
theorem IL.mv (h : IL P w A xs) (k : Mv P.B (P.L ++ P.ex) P.ws w w') : IL P w' A xs :=
  ⟨h.most, fun hn => by
    obtain ⟨a, e, h1, h2, h3, h4, h5⟩ := h.at_ hn
    have hb : w'.heap[a.block]? = w.heap[a.block]? := by
      rcases k.block _ h1 h2 h3 with e | e
      · exact e
      · exact absurd e h4
    refine ⟨a, e, Nat.lt_of_lt_of_le h1 k.size, h2, k.row h1 h3, fun q => h4 (q.of_same hb.symm), fun i hi => ?_⟩
    exact (World.cell?_of_block (w := w) (by rw [add_block]; exact hb)).trans (h5 i hi)⟩
theorem IL.tail {x : Int} {cp : Nat} (h : IL P w A (x :: xs)) (hc : xs.length + 1 ≤ cp) : IL P w (tailO A cp) xs :=
  ⟨by have := h.most; simp at this; omega, fun hn => by
    obtain ⟨a, rfl, h1, h2, h3, h4, h5⟩ := h.at_ (by simp)
    refine ⟨a.add 1, by unfold tailO; rw [if_neg (by omega)]; rfl, by rw [add_block]; exact h1, by rw [add_block]; exact h2, by rw [add_block]; exact h3, by rw [add_block]; exact h4, fun i hi => ?_⟩
    have := h5 (i + 1) (by simp; omega)
    rw [Go.Deep.add_add, show 1 + i = i + 1 by omega]
    simpa using this⟩
theorem IL.head {x : Int} (h : IL P w A (x :: xs)) : ∃ a, A = some a ∧ w.cell? a = some (.int .i64 x) := by
  obtain ⟨a, e, _, _, _, _, h5⟩ := h.at_ (by simp)
  have := h5 0 (by simp)
  refine ⟨a, e, ?_⟩
  have e0 : a.add 0 = a := by simp [Addr.add]
  rw [e0] at this
  simpa using this
end

theorem eqIn_nilf (d : Nat) (W : World) : (Op.equalIn (d + 1) 81 .nilFunc .nilFunc).run Try.prog W = .ok true W := by
  simp [Op.equalIn, run_underlying Try.underlying81]
theorem eqE_nilf (W : World) : (Op.equal 81 .nilFunc .nilFunc).run Try.prog W = .ok true W := eqIn_nilf 9999 W
theorem neq_nilf (W : World) : (binOp .neq 81 .nilFunc .nilFunc).run Try.prog W = .ok (.bool false) W := by
  simp only [binOp]
  simp [eqE_nilf]
section
variable {P : BP} {m b b1 b2 : Nat} {w : World} {A : Option Addr} {cp : Nat} {t : Int} {l : List Int} {dcap : Array Value}
abbrev bxP (P : BP) (dcap : Array Value) : Value := bxV P.p 0 1 46 47 #[] dcap
theorem puts1_g (hG : P.Good) (hl : IL P w A (t :: l)) (hcp : l.length + 1 ≤ cp) (x0 : (BM P).Bx w b 81 #[.nilFunc]) (x1 : (BM P).Bx w b1 31 #[.slice A (l.length + 1) cp]) (x2 : (BM P).Bx w b2 62 (bxC P.p 0 1 46 47 #[] dcap))
    (ih : ∀ n, n < m → ∀ w' r s, Mv P.B (P.L ++ P.ex) P.ws w w' → BI P r s w' → IL P w' (tailO A cp) l → (BM P).Makes n (startP l) 30 #[bxP P dcap, .slice (tailO A cp) l.length (cp - 1), .nilFunc] w') :
    (BM P).Cont m 51 #[ptr b, ptr b1, ptr b2] w (fun (_ : Unit) _ => True) (fun _ => #[]) (fun _ s => (startP l, s)) := by
  intro n hn x w' s r hm hj _
  have hM := bm_ok P hG
  have l0 := (x2.mv hm).l
  obtain ⟨c0, c1, c2, c3, c4, c5, c6⟩ : w'.cell? ⟨b2, 0, none⟩ = some (ptr P.p) ∧ w'.cell? ⟨b2, 1, none⟩ = some (.int .i64 0) ∧ w'.cell? ⟨b2, 2, none⟩ = some (.func (.func 46) #[] #[]) ∧ w'.cell? ⟨b2, 3, none⟩ = some (.func (.func 47) #[] dcap) ∧ w'.cell? ⟨b2, 4, none⟩ = some (ptr P.p) ∧ w'.cell? ⟨b2, 5, none⟩ = some (.int .i64 1) ∧ w'.cell? ⟨b2, 6, none⟩ = some (.func (.func 46) #[] #[]) := ⟨l0.cell 0, l0.cell 1, l0.cell 2, l0.cell 3, l0.cell 4, l0.cell 5, l0.cell 6⟩
  have d0 := (x0.mv hm).cell
  have e0 := (x1.mv hm).cell
  have hw := hM.okj hj
  have ht : ∀ W, Turns [] w' W → _ := fun W hW => (ih n hn W r s (hm.trans (hw.mv hM hW)) (hM.jmade hW hj).1 ((hl.mv (hm.trans (hw.mv hM hW))).tail hcp)).then hM (hM.jmade hW hj)
  have hfr : ∀ W, Turns [] w' W → Fr (BM P).L (BM P).ws w' W := fun W hW => hw.fr hM hW
  have o0 := (x0.mv hm).out
  have o1 := (x1.mv hm).out
  have o2 := (x2.mv hm).out
  have q0 := (x0.mv hm).row
  have q1 := (x1.mv hm).row
  have q2 := (x2.mv hm).row
  have g0 := (x0.mv hm).lt
  have g1 := (x1.mv hm).lt
  have g2 := (x2.mv hm).lt
  have hsl := slice_tail1 (t := 31) (e := 3) Try.underlying31 (by kernel_rfl) A (l.length + 1) cp (by omega)
  have en := neq_nilf
  clear hj hm ih x0 x1 x2 l0 hl hw
  show (BM P).Then _ #[ptr b, ptr b1, ptr b2] w' (fun v w'' => (BM P).I r s w'' ∧ (BM P).Code n (startP l) v w'')
  unfold Gm.Then at *
  go_enter Try.func51, Try.ntmps51
  go_upto_region 3 with (fail)
  go_region_held3 (fun W' => W'.cell? ⟨b2, 0, none⟩ = some (ptr P.p) ∧ W'.cell? ⟨b2, 1, none⟩ = some (.int .i64 0) ∧ W'.cell? ⟨b2, 2, none⟩ = some (.func (.func 46) #[] #[]) ∧ W'.cell? ⟨b2, 3, none⟩ = some (.func (.func 47) #[] dcap) ∧ W'.cell? ⟨b2, 4, none⟩ = some (ptr P.p) ∧ W'.cell? ⟨b2, 5, none⟩ = some (.int .i64 1) ∧ W'.cell? ⟨b2, 6, none⟩ = some (.func (.func 46) #[] #[]) ∧ W'.cell? ⟨b1, 0, none⟩ = some (.slice A (l.length + 1) cp) ∧ W'.cell? ⟨b, 0, none⟩ = some .nilFunc)
    (first | exact ⟨c0, c1, c2, c3, c4, c5, c6, e0, d0⟩ | exact kB)
    (first
      | (refine (ht _ ((Turns.refl [] w').drew)).mono ?_
         rintro e w2 ⟨v, rfl, hq, t2⟩
         have t3 := (hfr _ ((Turns.refl [] w').drew)).trans t2
         have kB := And.intro ((t3.cell (p := ⟨b2, 0, none⟩) g2 o2 q2).trans c0) (And.intro ((t3.cell (p := ⟨b2, 1, none⟩) g2 o2 q2).trans c1) (And.intro ((t3.cell (p := ⟨b2, 2, none⟩) g2 o2 q2).trans c2) (And.intro ((t3.cell (p := ⟨b2, 3, none⟩) g2 o2 q2).trans c3) (And.intro ((t3.cell (p := ⟨b2, 4, none⟩) g2 o2 q2).trans c4) (And.intro ((t3.cell (p := ⟨b2, 5, none⟩) g2 o2 q2).trans c5) (And.intro ((t3.cell (p := ⟨b2, 6, none⟩) g2 o2 q2).trans c6) (And.intro ((t3.cell (p := ⟨b1, 0, none⟩) g1 o1 q1).trans e0) ((t3.cell (p := ⟨b, 0, none⟩) g0 o0 q0).trans d0))))))))))
  all_goals
    go_wp2
    go_ret
    exact ⟨v, rfl, hq, t3⟩
end

end Go.Proofs.Ythkklcmmbpffiaa

/- The law's Puts, one behind the other: code for all of them. -/
namespace Go.Proofs.Ythkklcmmbpffiaa
open Go.RowKit
set_option maxRecDepth 100000

section
variable {P : BP}
set_option maxHeartbeats 2000000 in
theorem puts_g (hG : P.Good) {ba bn : Nat} : ∀ (m : Nat) (l : List Int), (∀ t, t ∈ l → 0 ≤ t ∧ t < P.n) → ∀ (A : Option Addr) (cp : Nat) (w : World) (r : Nat) (s : BSt), l.length ≤ cp → BI P r s w → IL P w A l → (BM P).Bx w ba 24 #[ptr P.p] → (BM P).Bx w bn 3 #[.int .i64 (P.n : Int)] →
    (BM P).Makes m (startP l) 30 #[bxP P #[ptr ba, ptr bn], .slice A l.length cp, .nilFunc] w := by
  intro m
  induction m using Nat.strongRecOn with
  | _ m ih =>
    intro l hl A cp w r s hcp hi hI xa xn
    have hM := bm_ok P hG
    have hw := hM.okw _ _ _ hi
    have hmf := hmf_run
    obtain ⟨W2, hW2⟩ : ∃ W2, (((w.alloc (.cells #[ptr P.p, .int .i64 0, .func (.func 46) #[] #[], .func (.func 47) #[] #[ptr ba, ptr bn], ptr P.p, .int .i64 1, .func (.func 46) #[] #[]] 62)).alloc (.cells #[.slice A l.length cp] 31)).alloc (.cells #[.nilFunc] 81)) = W2 := ⟨_, rfl⟩
    have k2 : Turns [] w W2 := by rw [← hW2]; exact (((Turns.refl _ _).alloc _).alloc _).alloc _
    have l0 : Lies W2 w.heap.size 62 (bxC P.p 0 1 46 47 #[] #[ptr ba, ptr bn]) := by rw [← hW2]; exact ((Lies.new _ _ _).alloc _).alloc _
    have l1 : Lies W2 (w.heap.size + 1) 31 #[.slice A l.length cp] := by rw [← hW2]; exact (Lies.new_of _ _ (by simp)).alloc _
    have l2 : Lies W2 (w.heap.size + 1 + 1) 81 #[.nilFunc] := by rw [← hW2]; exact Lies.new_of _ _ (by simp)
    have d1 : W2.cell? ⟨w.heap.size + 1, 0, none⟩ = some (.slice A l.length cp) := l1.cell 0
    cases l with
    | nil =>
      have hc0 : (BM P).Code m (startP []) .nilFunc W2 := by cases m <;> exact .inl ⟨rfl, rfl⟩
      clear ih hI xa xn l0 l1 l2 hi hw
      have hW2 : (((w.alloc (.cells #[ptr P.p, .int .i64 0, .func (.func 46) #[] #[], .func (.func 47) #[] #[ptr ba, ptr bn], ptr P.p, .int .i64 1, .func (.func 46) #[] #[]] 62)).alloc (.cells #[.slice A 0 cp] 31)).alloc (.cells #[.nilFunc] 81)) = W2 := hW2
      subst hW2
      unfold Gm.Makes
      go_enter Try.func30, Try.ntmps30
      go_wp2_with fail
      go_ret
      exact ⟨_, rfl, hc0, k2⟩
    | cons t l =>
      have hcp : l.length + 1 ≤ cp := hcp
      have ht := hl t (by simp)
      have hR : ∀ W, Turns [] W2 W → (BM P).Makes m (startP (t :: l)) 50 #[bxP P #[ptr ba, ptr bn], .int .i64 t, .func (.func 51) #[] #[ptr (w.heap.size + 1 + 1), ptr (w.heap.size + 1), ptr w.heap.size]] W := fun W hW => by
        have k4 := k2.trans hW
        have hm4 := hw.mv hM k4
        have hi4 := BI.tasks (Mv.of_turns k4 (by simp) (fun x hx => by cases hx)) hi
        exact put_g (bmAr P hG) hM (bm_ch P hG (.inl rfl)) (bm_ch P hG (.inr rfl)) (bm_put P hG t l 0) ht (fun o ho hz => ⟨(hIx_ix hz).1, ho⟩) m _ _ W ent_puts1 (hw.made hM k4) (bm_lk P W) (bm_dead P hG (t :: l) 0 (xa.mv hm4) (xn.mv hm4)) ((bm_ch P hG (.inl rfl)).begin ht hi4)
          (puts1_g hG (hI.mv hm4) hcp (hw.box hM k4 (by omega) (l2.turn hW (by simp)) (by decide)) (hw.box hM k4 (by omega) (l1.turn hW (by simp)) (by decide)) (hw.box hM k4 (Nat.le_refl _) (l0.turn hW (by simp)) (by decide))
            (fun n hn w' r' s' h1 h2 h3 => ih n hn l (fun y hy => hl y (by simp [hy])) _ _ w' r' s' (by omega) h2 h3 ((xa.mv hm4).mv h1) ((xn.mv hm4).mv h1)))
      obtain ⟨a, rfl, hca⟩ := (hI.mv (hw.mv hM k2)).head
      obtain ⟨c0, c1, c2, c3, c4, c5, c6⟩ : W2.cell? ⟨w.heap.size, 0, none⟩ = some (ptr P.p) ∧ W2.cell? ⟨w.heap.size, 1, none⟩ = some (.int .i64 0) ∧ W2.cell? ⟨w.heap.size, 2, none⟩ = some (.func (.func 46) #[] #[]) ∧ W2.cell? ⟨w.heap.size, 3, none⟩ = some (.func (.func 47) #[] #[ptr ba, ptr bn]) ∧ W2.cell? ⟨w.heap.size, 4, none⟩ = some (ptr P.p) ∧ W2.cell? ⟨w.heap.size, 5, none⟩ = some (.int .i64 1) ∧ W2.cell? ⟨w.heap.size, 6, none⟩ = some (.func (.func 46) #[] #[]) := ⟨l0.cell 0, l0.cell 1, l0.cell 2, l0.cell 3, l0.cell 4, l0.cell 5, l0.cell 6⟩
      have g0 := l0.lt
      have g1 := l1.lt
      have hll : ¬ ((l.length : Int) + 1 = 0) := by omega
      have d1 : W2.cell? ⟨w.heap.size + 1, 0, none⟩ = some (.slice (some a) (l.length + 1) cp) := d1
      have hb : a.block < W2.heap.size := by
        obtain ⟨a', e, hb, _⟩ := (hI.mv (hw.mv hM k2)).at_ (by simp)
        injection e with e
        rw [e]
        exact hb
      have ea0 : a.add 0 = a := by simp [Addr.add]
      have hca0 : W2.cell? (a.add 0) = some (.int .i64 t) := by rw [ea0]; exact hca
      clear ih hI xa xn l0 l1 l2 hi hw hl ht
      show (BM P).Makes m (startP (t :: l)) 30 #[bxP P #[ptr ba, ptr bn], .slice (some a) (l.length + 1) cp, .nilFunc] w
      generalize startP (t :: l) = q at *
      unfold Gm.Makes at *
      go_enter Try.func30, Try.ntmps30
      go_upto_region 3 with (fail)
      have hW2 : (((w.alloc (.cells #[ptr P.p, .int .i64 0, .func (.func 46) #[] #[], .func (.func 47) #[] #[ptr ba, ptr bn], ptr P.p, .int .i64 1, .func (.func 46) #[] #[]] 62)).alloc (.cells #[.slice (some a) (l.length + 1) cp] 31)).alloc (.cells #[.nilFunc] 81)) = W2 := hW2
      try rw [hW2]
      clear hW2
      go_region_held3 (fun W' => W'.cell? ⟨w.heap.size, 0, none⟩ = some (ptr P.p) ∧ W'.cell? ⟨w.heap.size, 1, none⟩ = some (.int .i64 0) ∧ W'.cell? ⟨w.heap.size, 2, none⟩ = some (.func (.func 46) #[] #[]) ∧ W'.cell? ⟨w.heap.size, 3, none⟩ = some (.func (.func 47) #[] #[ptr ba, ptr bn]) ∧ W'.cell? ⟨w.heap.size, 4, none⟩ = some (ptr P.p) ∧ W'.cell? ⟨w.heap.size, 5, none⟩ = some (.int .i64 1) ∧ W'.cell? ⟨w.heap.size, 6, none⟩ = some (.func (.func 46) #[] #[]) ∧ W'.cell? ⟨w.heap.size + 1, 0, none⟩ = some (.slice (some a) (l.length + 1) cp) ∧ W'.cell? (a.add 0) = some (.int .i64 t) ∧ W'.cell? a = some (.int .i64 t))
        (first | exact ⟨c0, c1, c2, c3, c4, c5, c6, d1, hca0, hca⟩ | exact kB)
        (first
          | (refine (hR _ ((Turns.refl [] W2).drew)).mono ?_
             rintro e w4 ⟨v, rfl, hc4, t4⟩
             have t5 := ((Turns.refl [] W2).drew).trans t4
             have kB := And.intro ((t5.cell (p := ⟨w.heap.size, 0, none⟩) g0 (by simp)).trans c0) (And.intro ((t5.cell (p := ⟨w.heap.size, 1, none⟩) g0 (by simp)).trans c1) (And.intro ((t5.cell (p := ⟨w.heap.size, 2, none⟩) g0 (by simp)).trans c2) (And.intro ((t5.cell (p := ⟨w.heap.size, 3, none⟩) g0 (by simp)).trans c3) (And.intro ((t5.cell (p := ⟨w.heap.size, 4, none⟩) g0 (by simp)).trans c4) (And.intro ((t5.cell (p := ⟨w.heap.size, 5, none⟩) g0 (by simp)).trans c5) (And.intro ((t5.cell (p := ⟨w.heap.size, 6, none⟩) g0 (by simp)).trans c6) (And.intro ((t5.cell (p := ⟨w.heap.size + 1, 0, none⟩) g1 (by simp)).trans d1) (And.intro ((t5.cell (p := a.add 0) (by rw [add_block]; exact hb) (by simp)).trans hca0) ((t5.cell (p := a) hb (by simp)).trans hca)))))))))))
      all_goals
        go_wp2
        go_ret
        exact ⟨v, rfl, hc4, k2.trans t5⟩
end

end Go.Proofs.Ythkklcmmbpffiaa

/- What drains do with a ticket. -/
namespace Go.Proofs.Ythkklcmmbpffiaa
open Go.RowKit
set_option maxRecDepth 100000

set_option maxHeartbeats 2000000 in
theorem bm_do (P : BP) (hG : P.Good) {w : World} {bo : Nat} (n m : Nat) (xo : (BM P).Bx w bo 70 #[ptr P.ob]) :
    (BM P).DoOk m w 55 #[ptr bo] (fun i => ⟨.eN i, [], n⟩) (fun x => ⟨.eI x, [], n⟩) (fun i s => { s with got := s.got ++ [i] }) (fun i _ => Ix i) (fun _ => True) (fun s => (startD n, { s with ends := s.ends ++ [(s.got.length : Int)] })) := by
  intro n' hn t x f' cap' W3 s r hm hj ht hE hT
  have hM := bm_ok P hG
  have hi := hj.1
  have hsg := hj.2.1
  have y0 := xo.mv hm
  obtain ⟨vg, u, hlg, hog, _, _⟩ := hi.ow
  have e0 := y0.cell
  have e1 : W3.cell? ⟨P.ob, 0, none⟩ = some vg := hlg.cell 0
  have tuW : Turns [] W3 (W3.alloc (.cells #[.int .i64 t] 3)).drew := ((Turns.refl [] _).alloc _).drew
  have hiW := BI.tasks (Mv.of_turns tuW (by simp) (fun x hx => by cases hx)) hi
  have frW := (hM.okw _ _ _ hi).fr hM tuW
  have u0 := (tuW.cell (p := ⟨bo, 0, none⟩) y0.lt (by simp)).trans e0
  have u2 := (tuW.cell (p := ⟨P.ob, 0, none⟩) hlg.lt (by simp)).trans e1
  have uf : (W3.alloc (.cells #[.int .i64 t] 3)).drew.frozen? ⟨P.ob, 0, none⟩ = false := (hlg.turn tuW (by simp)).frozen 0
  have lt0 := y0.lt
  have lt2 := hlg.lt
  have n0 := own_ne hog y0.l (by decide)
  have n2 := own_ne hog hlg (by decide)
  have hbase : P.B ≤ W3.heap.size := by have := hG.low.1; have := hi.ar.head.lt; omega
  have nb0 : P.ob ≠ bo := fun h => by rw [h] at hlg; exact hlg.unlike y0.l (by decide) rfl
  obtain ⟨i0, hi0, hz0, hz1, hz2⟩ := info_parts int_info8
  have hid : ∀ wc, BI P r { s with got := s.got ++ [t] } wc → Fr P.L P.ws W3 wc → (BM P).Makes n' (⟨.eI x, [], n⟩ : BPr) 56 #[.func (.func f') #[] cap'] wc := fun wc h1 h2 =>
    idle_g hM (D := fun _ => x < 0 → True) (fun _ _ _ => trivial) hE (hM.okw _ _ _ h1) rfl (hT.mv h2.mv) (fun s => rfl)
  show (BM P).Then _ #[.int .i64 t, .func (.func f') #[] cap', ptr bo] W3 (fun v w'' => BI P r { s with got := s.got ++ [t] } w'' ∧ (BM P).Code n' (⟨.eI x, [], n⟩ : BPr) v w'')
  clear hT hE hm hj xo
  unfold Gm.Then
  go_enter Try.func55, Try.ntmps55
  go_upto_region 1 with (fail)
  go_cut [] (fun wc => BI P r { s with got := s.got ++ [t] } wc ∧ Fr P.L P.ws W3 wc)
  case first =>
    clear hid
    refine wp_region_held_drew (S := fun W' => W'.cell? ⟨bo, 0, none⟩ = some (ptr P.ob) ∧ True) (by kernel_rfl) ⟨e0, trivial⟩ (fun hHeld => ?_)
    refine wpAnyH_take (i := 0) (oi := { dst := some 6, op := Go.Op.load 70 (Go.Operand.tmp 2), type := 70, pos := "law.go:68", after := #[], guard := none }) (v := ?_) rfl (by kernel_rfl) (by kernel_rfl) (by kernel_rfl) (fun _ _ _ h => h) (Or.inl ⟨by rfl, ?_⟩) hHeld ?_
    rotate_left
    · intro w hSw; obtain ⟨hS0, hS1⟩ := hSw; go_simp; try with_reducible rfl
    rotate_left
    try simp only [Act.put, List.setIfInBounds_toArray, List.set_cons_zero, List.set_cons_succ]
    refine wpAnyH_take (i := 1) (oi := { dst := some 7, op := Go.Op.load 70 (Go.Operand.tmp 2), type := 70, pos := "law.go:68", after := #[], guard := none }) (v := ?_) rfl (by kernel_rfl) (by kernel_rfl) (by kernel_rfl) (fun _ _ _ h => h) (Or.inl ⟨by rfl, ?_⟩) hHeld ?_
    rotate_left
    · intro w hSw; obtain ⟨hS0, hS1⟩ := hSw; go_simp; try with_reducible rfl
    rotate_left
    try simp only [Act.put, List.setIfInBounds_toArray, List.set_cons_zero, List.set_cons_succ]
    refine wpAnyH_take (i := 2) (oi := { dst := some 8, op := Go.Op.nilCheck (Go.Operand.tmp 7), type := 0, pos := "law.go:68", after := #[{ on := 1, ground := Go.Ground.data }], guard := none }) (v := ?_) rfl (by kernel_rfl) (by kernel_rfl) (by kernel_rfl) (fun _ _ _ h => h) (Or.inl ⟨by rfl, ?_⟩) hHeld ?_
    rotate_left
    · intro w hSw; obtain ⟨hS0, hS1⟩ := hSw; go_simp; try with_reducible rfl
    rotate_left
    try simp only [Act.put, List.setIfInBounds_toArray, List.set_cons_zero, List.set_cons_succ]
    refine wpAnyH_take (i := 3) (oi := { dst := some 9, op := Go.Op.fieldAddr 72 (Go.Operand.tmp 8) 0, type := 0, pos := "law.go:68", after := #[{ on := 2, ground := Go.Ground.data }], guard := none }) (v := ?_) rfl (by kernel_rfl) (by kernel_rfl) (by kernel_rfl) (fun _ _ _ h => h) (Or.inl ⟨by rfl, ?_⟩) hHeld ?_
    rotate_left
    · intro w hSw; obtain ⟨hS0, hS1⟩ := hSw; go_simp; try with_reducible rfl
    rotate_left
    try simp only [Act.put, List.setIfInBounds_toArray, List.set_cons_zero, List.set_cons_succ]
    refine wpAnyH_take (i := 5) (oi := { dst := some 11, op := Go.Op.move (Go.Operand.tmp 0), type := 3, pos := "law.go:68", after := #[], guard := none }) (v := ?_) rfl (by kernel_rfl) (by kernel_rfl) (by kernel_rfl) (fun _ _ _ h => h) (Or.inl ⟨by rfl, ?_⟩) hHeld ?_
    rotate_left
    · intro w hSw; obtain ⟨hS0, hS1⟩ := hSw; go_simp; try with_reducible rfl
    rotate_left
    try simp only [Act.put, List.setIfInBounds_toArray, List.set_cons_zero, List.set_cons_succ]
    refine wpAnyH_ready (rs := [4, 6]) (by kernel_rfl) (by simp) ?_
    refine AllReadyH.cons (o := { dst := some 10, op := Go.Op.load 31 (Go.Operand.tmp 9), type := 31, pos := "law.go:68", after := #[{ on := 3, ground := Go.Ground.data }], guard := none }) rfl (fun K hK => ?_) (AllReadyH.cons (o := { dst := some 12, op := Go.Op.buildSlice 31 1 #[(0, Go.Operand.tmp 11)], type := 31, pos := "law.go:68", after := #[{ on := 5, ground := Go.Ground.data }], guard := none }) rfl (fun K hK => ?_) AllReadyH.nil)
    · go_simp
      refine hK.out _ _ ⟨e0, trivial⟩ (fun hHeld => ?_)
      clear hK K
      try simp only [Act.put, List.setIfInBounds_toArray, List.set_cons_zero, List.set_cons_succ]
      refine wpAnyH_ready (rs := [6]) (by kernel_rfl) (by simp) ?_
      refine AllReadyH.cons (o := { dst := some 12, op := Go.Op.buildSlice 31 1 #[(0, Go.Operand.tmp 11)], type := 31, pos := "law.go:68", after := #[{ on := 5, ground := Go.Ground.data }], guard := none }) rfl (fun K hK => ?_) AllReadyH.nil
      go_simp
      refine hK.out _ _ ⟨u0, trivial⟩ (fun hHeld => ?_)
      clear hK K
      try simp only [Act.put, List.setIfInBounds_toArray, List.set_cons_zero, List.set_cons_succ]
      refine wpAnyH_ready (rs := [7]) (by kernel_rfl) (by simp) ?_
      refine AllReadyH.cons (o := { dst := some 13, op := Go.Op.call { callee := Go.Callee.builtin Go.Builtin.append, args := #[Go.Operand.tmp 10, Go.Operand.tmp 12], argTypes := #[31, 31] }, type := 31, pos := "law.go:68", after := #[{ on := 4, ground := Go.Ground.data }, { on := 6, ground := Go.Ground.data }], guard := none }) rfl (fun K hK => ?_) AllReadyH.nil
      refine step_append_lies _ (by rfl) _ _ _ (by rfl) P.B 3 i0 _ 1 8 Try.underlying31 hi0 hz0 hz1 hz2 rfl (by omega) vg s.got.length (intVs s.got) (by rfl) ((hog.alloc _).drew) ⟨W3.heap.size, 0, none⟩ 1 1 [.int .i64 t] (by rfl) (by rfl) (World.news_of_block (cs := #[.int .i64 t]) (t := 3) (fr := (0, 0)) (heap_alloc_new W3 _)) (by simp [Value.oneCell']) (by omega) (by simp only [maxLen]; omega) (by omega) (by simp; omega) (W3.heap.size + 1) (by simp) ?_
      intro gg cap w9 hown1 hgrow hat hlt
      have p0 : w9.cell? ⟨bo, 0, none⟩ = some (ptr P.ob) := (hgrow.cell_far ⟨bo, 0, none⟩ (by simp; omega) n0).trans u0
      have p2 : w9.cell? ⟨P.ob, 0, none⟩ = some vg := (hgrow.cell_far ⟨P.ob, 0, none⟩ (by simp; omega) n2).trans u2
      have pf : w9.frozen? ⟨P.ob, 0, none⟩ = false := (hgrow.frozen_far ⟨P.ob, 0, none⟩ (by simp; omega) n2).trans uf
      refine hK.out _ _ ⟨p0, trivial⟩ (fun hHeld => ?_)
      clear hK K
      try simp only [Act.put, List.setIfInBounds_toArray, List.set_cons_zero, List.set_cons_succ]
      refine wpAnyH_ready (rs := [8]) (by kernel_rfl) (by simp) ?_
      refine AllReadyH.cons (o := { dst := some 14, op := Go.Op.nilCheck (Go.Operand.tmp 6), type := 0, pos := "law.go:68", after := #[{ on := 0, ground := Go.Ground.data }, { on := 0, ground := Go.Ground.phase }, { on := 1, ground := Go.Ground.phase }, { on := 2, ground := Go.Ground.phase }, { on := 3, ground := Go.Ground.phase }, { on := 4, ground := Go.Ground.phase }, { on := 5, ground := Go.Ground.phase }, { on := 6, ground := Go.Ground.phase }, { on := 7, ground := Go.Ground.phase }], guard := none }) rfl (fun K hK => ?_) AllReadyH.nil
      go_simp
      refine hK.out _ _ ⟨p0, trivial⟩ (fun hHeld => ?_)
      clear hK K
      try simp only [Act.put, List.setIfInBounds_toArray, List.set_cons_zero, List.set_cons_succ]
      refine wpAnyH_ready (rs := [9]) (by kernel_rfl) (by simp) ?_
      refine AllReadyH.cons (o := { dst := some 15, op := Go.Op.fieldAddr 72 (Go.Operand.tmp 14) 0, type := 0, pos := "law.go:68", after := #[{ on := 8, ground := Go.Ground.data }, { on := 0, ground := Go.Ground.phase }, { on := 1, ground := Go.Ground.phase }, { on := 2, ground := Go.Ground.phase }, { on := 3, ground := Go.Ground.phase }, { on := 4, ground := Go.Ground.phase }, { on := 5, ground := Go.Ground.phase }, { on := 6, ground := Go.Ground.phase }, { on := 7, ground := Go.Ground.phase }], guard := none }) rfl (fun K hK => ?_) AllReadyH.nil
      go_simp
      refine hK.out _ _ ⟨p0, trivial⟩ (fun hHeld => ?_)
      clear hK K
      try simp only [Act.put, List.setIfInBounds_toArray, List.set_cons_zero, List.set_cons_succ]
      refine wpAnyH_ready (rs := [10]) (by kernel_rfl) (by simp) ?_
      refine AllReadyH.cons (o := { dst := none, op := Go.Op.store 31 (Go.Operand.tmp 15) (Go.Operand.tmp 13), type := 0, pos := "law.go:68", after := #[{ on := 9, ground := Go.Ground.data }, { on := 7, ground := Go.Ground.data }, { on := 7, ground := Go.Ground.chain }, { on := 0, ground := Go.Ground.phase }, { on := 1, ground := Go.Ground.phase }, { on := 2, ground := Go.Ground.phase }, { on := 3, ground := Go.Ground.phase }, { on := 4, ground := Go.Ground.phase }, { on := 5, ground := Go.Ground.phase }, { on := 6, ground := Go.Ground.phase }, { on := 7, ground := Go.Ground.phase }], guard := none }) rfl (fun K hK => ?_) AllReadyH.nil
      go_simp
      refine hK.out _ _ ⟨(World.cell?_setCell_far _ _ _ _ nb0).trans p0, trivial⟩ (fun hHeld => ?_)
      clear hK K
      try simp only [Act.put, List.setIfInBounds_toArray, List.set_cons_zero, List.set_cons_succ]
      refine wpAnyH_done (by kernel_rfl) ?_ _
      obtain ⟨a1, a2⟩ := hiW.app_got hG u2 hown1 hgrow (hat.imp id fun h => by simp; omega) ht hsg
      go_wp2_with fail
      go_meet
      case rel => exact ⟨a1, frW.trans a2⟩
    · go_simp
      refine hK.out _ _ ⟨u0, trivial⟩ (fun hHeld => ?_)
      clear hK K
      try simp only [Act.put, List.setIfInBounds_toArray, List.set_cons_zero, List.set_cons_succ]
      refine wpAnyH_ready (rs := [4]) (by kernel_rfl) (by simp) ?_
      refine AllReadyH.cons (o := { dst := some 10, op := Go.Op.load 31 (Go.Operand.tmp 9), type := 31, pos := "law.go:68", after := #[{ on := 3, ground := Go.Ground.data }], guard := none }) rfl (fun K hK => ?_) AllReadyH.nil
      go_simp
      refine hK.out _ _ ⟨u0, trivial⟩ (fun hHeld => ?_)
      clear hK K
      try simp only [Act.put, List.setIfInBounds_toArray, List.set_cons_zero, List.set_cons_succ]
      refine wpAnyH_ready (rs := [7]) (by kernel_rfl) (by simp) ?_
      refine AllReadyH.cons (o := { dst := some 13, op := Go.Op.call { callee := Go.Callee.builtin Go.Builtin.append, args := #[Go.Operand.tmp 10, Go.Operand.tmp 12], argTypes := #[31, 31] }, type := 31, pos := "law.go:68", after := #[{ on := 4, ground := Go.Ground.data }, { on := 6, ground := Go.Ground.data }], guard := none }) rfl (fun K hK => ?_) AllReadyH.nil
      refine step_append_lies _ (by rfl) _ _ _ (by rfl) P.B 3 i0 _ 1 8 Try.underlying31 hi0 hz0 hz1 hz2 rfl (by omega) vg s.got.length (intVs s.got) (by rfl) ((hog.alloc _).drew) ⟨W3.heap.size, 0, none⟩ 1 1 [.int .i64 t] (by rfl) (by rfl) (World.news_of_block (cs := #[.int .i64 t]) (t := 3) (fr := (0, 0)) (heap_alloc_new W3 _)) (by simp [Value.oneCell']) (by omega) (by simp only [maxLen]; omega) (by omega) (by simp; omega) (W3.heap.size + 1) (by simp) ?_
      intro gg cap w9 hown1 hgrow hat hlt
      have p0 : w9.cell? ⟨bo, 0, none⟩ = some (ptr P.ob) := (hgrow.cell_far ⟨bo, 0, none⟩ (by simp; omega) n0).trans u0
      have p2 : w9.cell? ⟨P.ob, 0, none⟩ = some vg := (hgrow.cell_far ⟨P.ob, 0, none⟩ (by simp; omega) n2).trans u2
      have pf : w9.frozen? ⟨P.ob, 0, none⟩ = false := (hgrow.frozen_far ⟨P.ob, 0, none⟩ (by simp; omega) n2).trans uf
      refine hK.out _ _ ⟨p0, trivial⟩ (fun hHeld => ?_)
      clear hK K
      try simp only [Act.put, List.setIfInBounds_toArray, List.set_cons_zero, List.set_cons_succ]
      refine wpAnyH_ready (rs := [8]) (by kernel_rfl) (by simp) ?_
      refine AllReadyH.cons (o := { dst := some 14, op := Go.Op.nilCheck (Go.Operand.tmp 6), type := 0, pos := "law.go:68", after := #[{ on := 0, ground := Go.Ground.data }, { on := 0, ground := Go.Ground.phase }, { on := 1, ground := Go.Ground.phase }, { on := 2, ground := Go.Ground.phase }, { on := 3, ground := Go.Ground.phase }, { on := 4, ground := Go.Ground.phase }, { on := 5, ground := Go.Ground.phase }, { on := 6, ground := Go.Ground.phase }, { on := 7, ground := Go.Ground.phase }], guard := none }) rfl (fun K hK => ?_) AllReadyH.nil
      go_simp
      refine hK.out _ _ ⟨p0, trivial⟩ (fun hHeld => ?_)
      clear hK K
      try simp only [Act.put, List.setIfInBounds_toArray, List.set_cons_zero, List.set_cons_succ]
      refine wpAnyH_ready (rs := [9]) (by kernel_rfl) (by simp) ?_
      refine AllReadyH.cons (o := { dst := some 15, op := Go.Op.fieldAddr 72 (Go.Operand.tmp 14) 0, type := 0, pos := "law.go:68", after := #[{ on := 8, ground := Go.Ground.data }, { on := 0, ground := Go.Ground.phase }, { on := 1, ground := Go.Ground.phase }, { on := 2, ground := Go.Ground.phase }, { on := 3, ground := Go.Ground.phase }, { on := 4, ground := Go.Ground.phase }, { on := 5, ground := Go.Ground.phase }, { on := 6, ground := Go.Ground.phase }, { on := 7, ground := Go.Ground.phase }], guard := none }) rfl (fun K hK => ?_) AllReadyH.nil
      go_simp
      refine hK.out _ _ ⟨p0, trivial⟩ (fun hHeld => ?_)
      clear hK K
      try simp only [Act.put, List.setIfInBounds_toArray, List.set_cons_zero, List.set_cons_succ]
      refine wpAnyH_ready (rs := [10]) (by kernel_rfl) (by simp) ?_
      refine AllReadyH.cons (o := { dst := none, op := Go.Op.store 31 (Go.Operand.tmp 15) (Go.Operand.tmp 13), type := 0, pos := "law.go:68", after := #[{ on := 9, ground := Go.Ground.data }, { on := 7, ground := Go.Ground.data }, { on := 7, ground := Go.Ground.chain }, { on := 0, ground := Go.Ground.phase }, { on := 1, ground := Go.Ground.phase }, { on := 2, ground := Go.Ground.phase }, { on := 3, ground := Go.Ground.phase }, { on := 4, ground := Go.Ground.phase }, { on := 5, ground := Go.Ground.phase }, { on := 6, ground := Go.Ground.phase }, { on := 7, ground := Go.Ground.phase }], guard := none }) rfl (fun K hK => ?_) AllReadyH.nil
      go_simp
      refine hK.out _ _ ⟨(World.cell?_setCell_far _ _ _ _ nb0).trans p0, trivial⟩ (fun hHeld => ?_)
      clear hK K
      try simp only [Act.put, List.setIfInBounds_toArray, List.set_cons_zero, List.set_cons_succ]
      refine wpAnyH_done (by kernel_rfl) ?_ _
      obtain ⟨a1, a2⟩ := hiW.app_got hG u2 hown1 hgrow (hat.imp id fun h => by simp; omega) ht hsg
      go_wp2_with fail
      go_meet
      case rel => exact ⟨a1, frW.trans a2⟩
  case rest =>
    obtain ⟨h1, h2⟩ := hcut
    have hid := hid _ h1 h2
    unfold Gm.Makes at hid
    go_wp2_with fail
    refine hid.mono ?_
    rintro e w4 ⟨v, rfl, hc4, t4⟩
    go_wp2
    go_ret
    exact ⟨v, rfl, ⟨BI.tasks (Mv.of_turns t4 (by simp) (fun x hx => by cases hx)) h1, hc4⟩, h2.trans ((hM.okw _ _ _ h1).fr hM t4)⟩

end Go.Proofs.Ythkklcmmbpffiaa

/- A drain ends. -/
namespace Go.Proofs.Ythkklcmmbpffiaa
open Go.RowKit
set_option maxRecDepth 100000

set_option maxHeartbeats 2000000 in
theorem drains12_g (P : BP) (hG : P.Good) {w : World} {bo bb bn n m : Nat} {dcap : Array Value} (hn9 : n < 1000) (xo : (BM P).Bx w bo 70 #[ptr P.ob]) (xb : (BM P).Bx w bb 62 (bxC P.p 0 1 46 47 #[] dcap)) (xn : (BM P).Bx w bn 3 #[.int .i64 ((n : Int) + 1)])
    (ih : ∀ n', n' < m → ∀ w', Mv P.B (P.L ++ P.ex) P.ws w w' → (BM P).OkW w' → (BM P).Makes n' (startD n) 31 #[bxP P dcap, .int .i64 (n : Int), ptr P.ob] w') :
    (BM P).Cont m 57 #[ptr bo, ptr bb, ptr bn] w (fun (_ : Unit) _ => True) (fun _ => #[]) (fun _ s => (startD n, { s with ends := s.ends ++ [(s.got.length : Int)] })) := by
  intro n' hn _ W3 s r hm hj _
  have hM := bm_ok P hG
  have hi := hj.1
  have hsg := hj.2.2
  have hix : Ix (s.got.length : Int) := by have := hi.size.1; unfold Ix; omega
  have y0 := xo.mv hm
  obtain ⟨vgot, vg, hlg, hgo, hog, _⟩ := hi.ow
  obtain ⟨Ag, cg, hvg, _⟩ := own_slice hgo
  subst hvg
  have e0 := y0.cell
  have eg : W3.cell? ⟨P.ob, 0, none⟩ = some (.slice Ag s.got.length cg) := hlg.cell 0
  have e1 : W3.cell? ⟨P.ob, 1, none⟩ = some vg := hlg.cell 1
  have tuW : Turns [] W3 (W3.alloc (.cells #[.int .i64 (s.got.length : Int)] 3)).drew := ((Turns.refl [] _).alloc _).drew
  have hiW := BI.tasks (Mv.of_turns tuW (by simp) (fun x hx => by cases hx)) hi
  have frW := (hM.okw _ _ _ hi).fr hM tuW
  have u0 := (tuW.cell (p := ⟨bo, 0, none⟩) y0.lt (by simp)).trans e0
  have ug := (tuW.cell (p := ⟨P.ob, 0, none⟩) hlg.lt (by simp)).trans eg
  have u2 := (tuW.cell (p := ⟨P.ob, 1, none⟩) hlg.lt (by simp)).trans e1
  have uf : (W3.alloc (.cells #[.int .i64 (s.got.length : Int)] 3)).drew.frozen? ⟨P.ob, 1, none⟩ = false := (hlg.turn tuW (by simp)).frozen 1
  have lt0 := y0.lt
  have lt2 := hlg.lt
  have n0 := own_ne hog y0.l (by decide)
  have n2 := own_ne hog hlg (by decide)
  have hbase : P.B ≤ W3.heap.size := by have := hG.low.1; have := hi.ar.head.lt; omega
  have nb0 : P.ob ≠ bo := fun h => by rw [h] at hlg; exact hlg.unlike y0.l (by decide) rfl
  obtain ⟨i0, hi0, hz0, hz1, hz2⟩ := info_parts int_info8
  have hD : ∀ wc, BI P r { s with ends := s.ends ++ [(s.got.length : Int)] } wc → Fr P.L P.ws W3 wc → (BM P).Makes n' (startD n) 31 #[bxP P dcap, .int .i64 (n : Int), ptr P.ob] wc ∧ (BM P).Bx wc bo 70 #[ptr P.ob] ∧ (BM P).Bx wc bb 62 (bxC P.p 0 1 46 47 #[] dcap) ∧ (BM P).Bx wc bn 3 #[.int .i64 ((n : Int) + 1)] := fun wc h1 h2 =>
    ⟨ih n' hn wc (hm.trans h2.mv) (hM.okw _ _ _ h1), (xo.mv hm).mv h2.mv, (xb.mv hm).mv h2.mv, (xn.mv hm).mv h2.mv⟩
  show (BM P).Then _ #[ptr bo, ptr bb, ptr bn] W3 (fun v w'' => BI P r { s with ends := s.ends ++ [(s.got.length : Int)] } w'' ∧ (BM P).Code n' (startD n) v w'')
  clear hm hj xo xb xn ih
  unfold Gm.Then
  go_enter Try.func57, Try.ntmps57
  go_upto_region 1 with (fail)
  go_cut [] (fun wc => BI P r { s with ends := s.ends ++ [(s.got.length : Int)] } wc ∧ Fr P.L P.ws W3 wc)
  case first =>
    clear hD
    refine wp_region_held_drew (S := fun W' => W'.cell? ⟨bo, 0, none⟩ = some (ptr P.ob) ∧ W'.cell? ⟨P.ob, 0, none⟩ = some (.slice Ag s.got.length cg)) (by kernel_rfl) ⟨e0, eg⟩ (fun hHeld => ?_)
    refine wpAnyH_take (i := 0) (oi := { dst := some 4, op := Go.Op.load 70 (Go.Operand.tmp 0), type := 70, pos := "law.go:71", after := #[], guard := none }) (v := ?_) rfl (by kernel_rfl) (by kernel_rfl) (by kernel_rfl) (fun _ _ _ h => h) (Or.inl ⟨by rfl, ?_⟩) hHeld ?_
    rotate_left
    · intro w hSw; obtain ⟨hS0, hS1⟩ := hSw; go_simp; try with_reducible rfl
    rotate_left
    try simp only [Act.put, List.setIfInBounds_toArray, List.set_cons_zero, List.set_cons_succ]
    refine wpAnyH_take (i := 1) (oi := { dst := some 5, op := Go.Op.load 70 (Go.Operand.tmp 0), type := 70, pos := "law.go:71", after := #[], guard := none }) (v := ?_) rfl (by kernel_rfl) (by kernel_rfl) (by kernel_rfl) (fun _ _ _ h => h) (Or.inl ⟨by rfl, ?_⟩) hHeld ?_
    rotate_left
    · intro w hSw; obtain ⟨hS0, hS1⟩ := hSw; go_simp; try with_reducible rfl
    rotate_left
    try simp only [Act.put, List.setIfInBounds_toArray, List.set_cons_zero, List.set_cons_succ]
    refine wpAnyH_take (i := 2) (oi := { dst := some 6, op := Go.Op.nilCheck (Go.Operand.tmp 5), type := 0, pos := "law.go:71", after := #[{ on := 1, ground := Go.Ground.data }], guard := none }) (v := ?_) rfl (by kernel_rfl) (by kernel_rfl) (by kernel_rfl) (fun _ _ _ h => h) (Or.inl ⟨by rfl, ?_⟩) hHeld ?_
    rotate_left
    · intro w hSw; obtain ⟨hS0, hS1⟩ := hSw; go_simp; try with_reducible rfl
    rotate_left
    try simp only [Act.put, List.setIfInBounds_toArray, List.set_cons_zero, List.set_cons_succ]
    refine wpAnyH_take (i := 3) (oi := { dst := some 7, op := Go.Op.fieldAddr 72 (Go.Operand.tmp 6) 1, type := 0, pos := "law.go:71", after := #[{ on := 2, ground := Go.Ground.data }], guard := none }) (v := ?_) rfl (by kernel_rfl) (by kernel_rfl) (by kernel_rfl) (fun _ _ _ h => h) (Or.inl ⟨by rfl, ?_⟩) hHeld ?_
    rotate_left
    · intro w hSw; obtain ⟨hS0, hS1⟩ := hSw; go_simp; try with_reducible rfl
    rotate_left
    try simp only [Act.put, List.setIfInBounds_toArray, List.set_cons_zero, List.set_cons_succ]
    refine wpAnyH_take (i := 5) (oi := { dst := some 9, op := Go.Op.load 70 (Go.Operand.tmp 0), type := 70, pos := "law.go:71", after := #[], guard := none }) (v := ?_) rfl (by kernel_rfl) (by kernel_rfl) (by kernel_rfl) (fun _ _ _ h => h) (Or.inl ⟨by rfl, ?_⟩) hHeld ?_
    rotate_left
    · intro w hSw; obtain ⟨hS0, hS1⟩ := hSw; go_simp; try with_reducible rfl
    rotate_left
    try simp only [Act.put, List.setIfInBounds_toArray, List.set_cons_zero, List.set_cons_succ]
    refine wpAnyH_take (i := 6) (oi := { dst := some 10, op := Go.Op.nilCheck (Go.Operand.tmp 9), type := 0, pos := "law.go:71", after := #[{ on := 5, ground := Go.Ground.data }], guard := none }) (v := ?_) rfl (by kernel_rfl) (by kernel_rfl) (by kernel_rfl) (fun _ _ _ h => h) (Or.inl ⟨by rfl, ?_⟩) hHeld ?_
    rotate_left
    · intro w hSw; obtain ⟨hS0, hS1⟩ := hSw; go_simp; try with_reducible rfl
    rotate_left
    try simp only [Act.put, List.setIfInBounds_toArray, List.set_cons_zero, List.set_cons_succ]
    refine wpAnyH_take (i := 7) (oi := { dst := some 11, op := Go.Op.fieldAddr 72 (Go.Operand.tmp 10) 0, type := 0, pos := "law.go:71", after := #[{ on := 6, ground := Go.Ground.data }], guard := none }) (v := ?_) rfl (by kernel_rfl) (by kernel_rfl) (by kernel_rfl) (fun _ _ _ h => h) (Or.inl ⟨by rfl, ?_⟩) hHeld ?_
    rotate_left
    · intro w hSw; obtain ⟨hS0, hS1⟩ := hSw; go_simp; try with_reducible rfl
    rotate_left
    try simp only [Act.put, List.setIfInBounds_toArray, List.set_cons_zero, List.set_cons_succ]
    refine wpAnyH_take (i := 8) (oi := { dst := some 12, op := Go.Op.load 31 (Go.Operand.tmp 11), type := 31, pos := "law.go:71", after := #[{ on := 7, ground := Go.Ground.data }], guard := none }) (v := ?_) rfl (by kernel_rfl) (by kernel_rfl) (by kernel_rfl) (fun _ _ _ h => h) (Or.inl ⟨by rfl, ?_⟩) hHeld ?_
    rotate_left
    · intro w hSw; obtain ⟨hS0, hS1⟩ := hSw; go_simp; try with_reducible rfl
    rotate_left
    try simp only [Act.put, List.setIfInBounds_toArray, List.set_cons_zero, List.set_cons_succ]
    refine wpAnyH_take (i := 9) (oi := { dst := some 13, op := Go.Op.call { callee := Go.Callee.builtin Go.Builtin.len, args := #[Go.Operand.tmp 12], argTypes := #[31] }, type := 3, pos := "law.go:71", after := #[{ on := 8, ground := Go.Ground.data }], guard := none }) (v := ?_) rfl (by kernel_rfl) (by kernel_rfl) (by kernel_rfl) (fun _ _ _ h => h) (Or.inl ⟨by rfl, ?_⟩) hHeld ?_
    rotate_left
    · intro w hSw; obtain ⟨hS0, hS1⟩ := hSw; go_simp; try with_reducible rfl
    rotate_left
    try simp only [Act.put, List.setIfInBounds_toArray, List.set_cons_zero, List.set_cons_succ]
    refine wpAnyH_ready (rs := [4, 10]) (by kernel_rfl) (by simp) ?_
    refine AllReadyH.cons (o := { dst := some 8, op := Go.Op.load 31 (Go.Operand.tmp 7), type := 31, pos := "law.go:71", after := #[{ on := 3, ground := Go.Ground.data }], guard := none }) rfl (fun K hK => ?_) (AllReadyH.cons (o := { dst := some 14, op := Go.Op.buildSlice 31 1 #[(0, Go.Operand.tmp 13)], type := 31, pos := "law.go:71", after := #[{ on := 9, ground := Go.Ground.data }], guard := none }) rfl (fun K hK => ?_) AllReadyH.nil)
    · go_simp
      refine hK.out _ _ ⟨e0, eg⟩ (fun hHeld => ?_)
      clear hK K
      try simp only [Act.put, List.setIfInBounds_toArray, List.set_cons_zero, List.set_cons_succ]
      refine wpAnyH_ready (rs := [10]) (by kernel_rfl) (by simp) ?_
      refine AllReadyH.cons (o := { dst := some 14, op := Go.Op.buildSlice 31 1 #[(0, Go.Operand.tmp 13)], type := 31, pos := "law.go:71", after := #[{ on := 9, ground := Go.Ground.data }], guard := none }) rfl (fun K hK => ?_) AllReadyH.nil
      go_simp
      refine hK.out _ _ ⟨u0, ug⟩ (fun hHeld => ?_)
      clear hK K
      try simp only [Act.put, List.setIfInBounds_toArray, List.set_cons_zero, List.set_cons_succ]
      refine wpAnyH_ready (rs := [11]) (by kernel_rfl) (by simp) ?_
      refine AllReadyH.cons (o := { dst := some 15, op := Go.Op.call { callee := Go.Callee.builtin Go.Builtin.append, args := #[Go.Operand.tmp 8, Go.Operand.tmp 14], argTypes := #[31, 31] }, type := 31, pos := "law.go:71", after := #[{ on := 4, ground := Go.Ground.data }, { on := 10, ground := Go.Ground.data }], guard := none }) rfl (fun K hK => ?_) AllReadyH.nil
      refine step_append_lies _ (by rfl) _ _ _ (by rfl) P.B 3 i0 _ 1 8 Try.underlying31 hi0 hz0 hz1 hz2 rfl (by omega) vg s.ends.length (intVs s.ends) (by rfl) ((hog.alloc _).drew) ⟨W3.heap.size, 0, none⟩ 1 1 [.int .i64 (s.got.length : Int)] (by rfl) (by rfl) (World.news_of_block (cs := #[.int .i64 (s.got.length : Int)]) (t := 3) (fr := (0, 0)) (heap_alloc_new W3 _)) (by simp [Value.oneCell']) (by omega) (by simp only [maxLen]; omega) (by omega) (by simp; omega) (W3.heap.size + 1) (by simp) ?_
      intro gg cap w9 hown1 hgrow hat hlt
      have p0 : w9.cell? ⟨bo, 0, none⟩ = some (ptr P.ob) := (hgrow.cell_far ⟨bo, 0, none⟩ (by simp; omega) n0).trans u0
      have pg : w9.cell? ⟨P.ob, 0, none⟩ = some (.slice Ag s.got.length cg) := (hgrow.cell_far ⟨P.ob, 0, none⟩ (by simp; omega) n2).trans ug
      have p2 : w9.cell? ⟨P.ob, 1, none⟩ = some vg := (hgrow.cell_far ⟨P.ob, 1, none⟩ (by simp; omega) n2).trans u2
      have pf : w9.frozen? ⟨P.ob, 1, none⟩ = false := (hgrow.frozen_far ⟨P.ob, 1, none⟩ (by simp; omega) n2).trans uf
      have hl9 : Lies w9 P.ob 72 #[.slice Ag s.got.length cg, vg] := (hgrow.block P.ob (by simp; omega) n2).trans (hlg.turn tuW (by simp))
      have hs9 : ∀ x, (w9.setCell ⟨P.ob, 1, none⟩ x).cell? ⟨P.ob, 0, none⟩ = some (.slice Ag s.got.length cg) := fun x => by simpa using ((hl9.set 1 x).cell 0)
      refine hK.out _ _ ⟨p0, pg⟩ (fun hHeld => ?_)
      clear hK K
      try simp only [Act.put, List.setIfInBounds_toArray, List.set_cons_zero, List.set_cons_succ]
      refine wpAnyH_ready (rs := [12]) (by kernel_rfl) (by simp) ?_
      refine AllReadyH.cons (o := { dst := some 16, op := Go.Op.nilCheck (Go.Operand.tmp 4), type := 0, pos := "law.go:71", after := #[{ on := 0, ground := Go.Ground.data }, { on := 0, ground := Go.Ground.phase }, { on := 1, ground := Go.Ground.phase }, { on := 2, ground := Go.Ground.phase }, { on := 3, ground := Go.Ground.phase }, { on := 4, ground := Go.Ground.phase }, { on := 5, ground := Go.Ground.phase }, { on := 6, ground := Go.Ground.phase }, { on := 7, ground := Go.Ground.phase }, { on := 8, ground := Go.Ground.phase }, { on := 9, ground := Go.Ground.phase }, { on := 10, ground := Go.Ground.phase }, { on := 11, ground := Go.Ground.phase }], guard := none }) rfl (fun K hK => ?_) AllReadyH.nil
      go_simp
      refine hK.out _ _ ⟨p0, pg⟩ (fun hHeld => ?_)
      clear hK K
      try simp only [Act.put, List.setIfInBounds_toArray, List.set_cons_zero, List.set_cons_succ]
      refine wpAnyH_ready (rs := [13]) (by kernel_rfl) (by simp) ?_
      refine AllReadyH.cons (o := { dst := some 17, op := Go.Op.fieldAddr 72 (Go.Operand.tmp 16) 1, type := 0, pos := "law.go:71", after := #[{ on := 12, ground := Go.Ground.data }, { on := 0, ground := Go.Ground.phase }, { on := 1, ground := Go.Ground.phase }, { on := 2, ground := Go.Ground.phase }, { on := 3, ground := Go.Ground.phase }, { on := 4, ground := Go.Ground.phase }, { on := 5, ground := Go.Ground.phase }, { on := 6, ground := Go.Ground.phase }, { on := 7, ground := Go.Ground.phase }, { on := 8, ground := Go.Ground.phase }, { on := 9, ground := Go.Ground.phase }, { on := 10, ground := Go.Ground.phase }, { on := 11, ground := Go.Ground.phase }], guard := none }) rfl (fun K hK => ?_) AllReadyH.nil
      go_simp
      refine hK.out _ _ ⟨p0, pg⟩ (fun hHeld => ?_)
      clear hK K
      try simp only [Act.put, List.setIfInBounds_toArray, List.set_cons_zero, List.set_cons_succ]
      refine wpAnyH_ready (rs := [14]) (by kernel_rfl) (by simp) ?_
      refine AllReadyH.cons (o := { dst := none, op := Go.Op.store 31 (Go.Operand.tmp 17) (Go.Operand.tmp 15), type := 0, pos := "law.go:71", after := #[{ on := 13, ground := Go.Ground.data }, { on := 11, ground := Go.Ground.data }, { on := 11, ground := Go.Ground.chain }, { on := 0, ground := Go.Ground.phase }, { on := 1, ground := Go.Ground.phase }, { on := 2, ground := Go.Ground.phase }, { on := 3, ground := Go.Ground.phase }, { on := 4, ground := Go.Ground.phase }, { on := 5, ground := Go.Ground.phase }, { on := 6, ground := Go.Ground.phase }, { on := 7, ground := Go.Ground.phase }, { on := 8, ground := Go.Ground.phase }, { on := 9, ground := Go.Ground.phase }, { on := 10, ground := Go.Ground.phase }, { on := 11, ground := Go.Ground.phase }], guard := none }) rfl (fun K hK => ?_) AllReadyH.nil
      go_simp
      refine hK.out _ _ ⟨(World.cell?_setCell_far _ _ _ _ nb0).trans p0, hs9 _⟩ (fun hHeld => ?_)
      clear hK K
      try simp only [Act.put, List.setIfInBounds_toArray, List.set_cons_zero, List.set_cons_succ]
      refine wpAnyH_done (by kernel_rfl) ?_ _
      obtain ⟨a1, a2⟩ := hiW.app_ends hG u2 hown1 hgrow (hat.imp id fun h => by simp; omega) hix hsg
      go_wp2_with fail
      go_meet
      case rel => exact ⟨a1, frW.trans a2⟩
    · go_simp
      refine hK.out _ _ ⟨u0, ug⟩ (fun hHeld => ?_)
      clear hK K
      try simp only [Act.put, List.setIfInBounds_toArray, List.set_cons_zero, List.set_cons_succ]
      refine wpAnyH_ready (rs := [4]) (by kernel_rfl) (by simp) ?_
      refine AllReadyH.cons (o := { dst := some 8, op := Go.Op.load 31 (Go.Operand.tmp 7), type := 31, pos := "law.go:71", after := #[{ on := 3, ground := Go.Ground.data }], guard := none }) rfl (fun K hK => ?_) AllReadyH.nil
      go_simp
      refine hK.out _ _ ⟨u0, ug⟩ (fun hHeld => ?_)
      clear hK K
      try simp only [Act.put, List.setIfInBounds_toArray, List.set_cons_zero, List.set_cons_succ]
      refine wpAnyH_ready (rs := [11]) (by kernel_rfl) (by simp) ?_
      refine AllReadyH.cons (o := { dst := some 15, op := Go.Op.call { callee := Go.Callee.builtin Go.Builtin.append, args := #[Go.Operand.tmp 8, Go.Operand.tmp 14], argTypes := #[31, 31] }, type := 31, pos := "law.go:71", after := #[{ on := 4, ground := Go.Ground.data }, { on := 10, ground := Go.Ground.data }], guard := none }) rfl (fun K hK => ?_) AllReadyH.nil
      refine step_append_lies _ (by rfl) _ _ _ (by rfl) P.B 3 i0 _ 1 8 Try.underlying31 hi0 hz0 hz1 hz2 rfl (by omega) vg s.ends.length (intVs s.ends) (by rfl) ((hog.alloc _).drew) ⟨W3.heap.size, 0, none⟩ 1 1 [.int .i64 (s.got.length : Int)] (by rfl) (by rfl) (World.news_of_block (cs := #[.int .i64 (s.got.length : Int)]) (t := 3) (fr := (0, 0)) (heap_alloc_new W3 _)) (by simp [Value.oneCell']) (by omega) (by simp only [maxLen]; omega) (by omega) (by simp; omega) (W3.heap.size + 1) (by simp) ?_
      intro gg cap w9 hown1 hgrow hat hlt
      have p0 : w9.cell? ⟨bo, 0, none⟩ = some (ptr P.ob) := (hgrow.cell_far ⟨bo, 0, none⟩ (by simp; omega) n0).trans u0
      have pg : w9.cell? ⟨P.ob, 0, none⟩ = some (.slice Ag s.got.length cg) := (hgrow.cell_far ⟨P.ob, 0, none⟩ (by simp; omega) n2).trans ug
      have p2 : w9.cell? ⟨P.ob, 1, none⟩ = some vg := (hgrow.cell_far ⟨P.ob, 1, none⟩ (by simp; omega) n2).trans u2
      have pf : w9.frozen? ⟨P.ob, 1, none⟩ = false := (hgrow.frozen_far ⟨P.ob, 1, none⟩ (by simp; omega) n2).trans uf
      have hl9 : Lies w9 P.ob 72 #[.slice Ag s.got.length cg, vg] := (hgrow.block P.ob (by simp; omega) n2).trans (hlg.turn tuW (by simp))
      have hs9 : ∀ x, (w9.setCell ⟨P.ob, 1, none⟩ x).cell? ⟨P.ob, 0, none⟩ = some (.slice Ag s.got.length cg) := fun x => by simpa using ((hl9.set 1 x).cell 0)
      refine hK.out _ _ ⟨p0, pg⟩ (fun hHeld => ?_)
      clear hK K
      try simp only [Act.put, List.setIfInBounds_toArray, List.set_cons_zero, List.set_cons_succ]
      refine wpAnyH_ready (rs := [12]) (by kernel_rfl) (by simp) ?_
      refine AllReadyH.cons (o := { dst := some 16, op := Go.Op.nilCheck (Go.Operand.tmp 4), type := 0, pos := "law.go:71", after := #[{ on := 0, ground := Go.Ground.data }, { on := 0, ground := Go.Ground.phase }, { on := 1, ground := Go.Ground.phase }, { on := 2, ground := Go.Ground.phase }, { on := 3, ground := Go.Ground.phase }, { on := 4, ground := Go.Ground.phase }, { on := 5, ground := Go.Ground.phase }, { on := 6, ground := Go.Ground.phase }, { on := 7, ground := Go.Ground.phase }, { on := 8, ground := Go.Ground.phase }, { on := 9, ground := Go.Ground.phase }, { on := 10, ground := Go.Ground.phase }, { on := 11, ground := Go.Ground.phase }], guard := none }) rfl (fun K hK => ?_) AllReadyH.nil
      go_simp
      refine hK.out _ _ ⟨p0, pg⟩ (fun hHeld => ?_)
      clear hK K
      try simp only [Act.put, List.setIfInBounds_toArray, List.set_cons_zero, List.set_cons_succ]
      refine wpAnyH_ready (rs := [13]) (by kernel_rfl) (by simp) ?_
      refine AllReadyH.cons (o := { dst := some 17, op := Go.Op.fieldAddr 72 (Go.Operand.tmp 16) 1, type := 0, pos := "law.go:71", after := #[{ on := 12, ground := Go.Ground.data }, { on := 0, ground := Go.Ground.phase }, { on := 1, ground := Go.Ground.phase }, { on := 2, ground := Go.Ground.phase }, { on := 3, ground := Go.Ground.phase }, { on := 4, ground := Go.Ground.phase }, { on := 5, ground := Go.Ground.phase }, { on := 6, ground := Go.Ground.phase }, { on := 7, ground := Go.Ground.phase }, { on := 8, ground := Go.Ground.phase }, { on := 9, ground := Go.Ground.phase }, { on := 10, ground := Go.Ground.phase }, { on := 11, ground := Go.Ground.phase }], guard := none }) rfl (fun K hK => ?_) AllReadyH.nil
      go_simp
      refine hK.out _ _ ⟨p0, pg⟩ (fun hHeld => ?_)
      clear hK K
      try simp only [Act.put, List.setIfInBounds_toArray, List.set_cons_zero, List.set_cons_succ]
      refine wpAnyH_ready (rs := [14]) (by kernel_rfl) (by simp) ?_
      refine AllReadyH.cons (o := { dst := none, op := Go.Op.store 31 (Go.Operand.tmp 17) (Go.Operand.tmp 15), type := 0, pos := "law.go:71", after := #[{ on := 13, ground := Go.Ground.data }, { on := 11, ground := Go.Ground.data }, { on := 11, ground := Go.Ground.chain }, { on := 0, ground := Go.Ground.phase }, { on := 1, ground := Go.Ground.phase }, { on := 2, ground := Go.Ground.phase }, { on := 3, ground := Go.Ground.phase }, { on := 4, ground := Go.Ground.phase }, { on := 5, ground := Go.Ground.phase }, { on := 6, ground := Go.Ground.phase }, { on := 7, ground := Go.Ground.phase }, { on := 8, ground := Go.Ground.phase }, { on := 9, ground := Go.Ground.phase }, { on := 10, ground := Go.Ground.phase }, { on := 11, ground := Go.Ground.phase }], guard := none }) rfl (fun K hK => ?_) AllReadyH.nil
      go_simp
      refine hK.out _ _ ⟨(World.cell?_setCell_far _ _ _ _ nb0).trans p0, hs9 _⟩ (fun hHeld => ?_)
      clear hK K
      try simp only [Act.put, List.setIfInBounds_toArray, List.set_cons_zero, List.set_cons_succ]
      refine wpAnyH_done (by kernel_rfl) ?_ _
      obtain ⟨a1, a2⟩ := hiW.app_ends hG u2 hown1 hgrow (hat.imp id fun h => by simp; omega) hix hsg
      go_wp2_with fail
      go_meet
      case rel => exact ⟨a1, frW.trans a2⟩
  case rest =>
    obtain ⟨h1, h2⟩ := hcut
    obtain ⟨hid, z0, z1, z2⟩ := hD _ h1 h2
    have l0 := z1.l
    obtain ⟨c0, c1, c2, c3, c4, c5, c6⟩ : wc.cell? ⟨bb, 0, none⟩ = some (ptr P.p) ∧ wc.cell? ⟨bb, 1, none⟩ = some (.int .i64 0) ∧ wc.cell? ⟨bb, 2, none⟩ = some (.func (.func 46) #[] #[]) ∧ wc.cell? ⟨bb, 3, none⟩ = some (.func (.func 47) #[] dcap) ∧ wc.cell? ⟨bb, 4, none⟩ = some (ptr P.p) ∧ wc.cell? ⟨bb, 5, none⟩ = some (.int .i64 1) ∧ wc.cell? ⟨bb, 6, none⟩ = some (.func (.func 46) #[] #[]) := ⟨l0.cell 0, l0.cell 1, l0.cell 2, l0.cell 3, l0.cell 4, l0.cell 5, l0.cell 6⟩
    have d0 := z0.cell
    have d2 := z2.cell
    have hwk : IntKind.i64.wrap ((n : Int) + 1 - 1) = n := by rw [IntKind.wrap_i64]; omega
    unfold Gm.Makes at hid
    go_wp2_with fail
    refine (show Calls Try.prog 31 _ wc _ from hid).mono ?_
    rintro e w4 ⟨v, rfl, hc4, t4⟩
    go_wp2
    go_ret
    exact ⟨v, rfl, ⟨BI.tasks (Mv.of_turns t4 (by simp) (fun x hx => by cases hx)) h1, hc4⟩, h2.trans ((hM.okw _ _ _ h1).fr hM t4)⟩

end Go.Proofs.Ythkklcmmbpffiaa

/- Drains, one behind the other: code for all of them. -/
namespace Go.Proofs.Ythkklcmmbpffiaa
open Go.RowKit
set_option maxRecDepth 100000

theorem ent_drains1 : Ent 53 := ent_of Try.func53 (by kernel_rfl) (by kernel_rfl)
theorem ent_drains11 : Ent 55 := ent_of Try.func55 (by kernel_rfl) (by kernel_rfl)
theorem ent_drains12 : Ent 57 := ent_of Try.func57 (by kernel_rfl) (by kernel_rfl)

theorem drains1_g (P : BP) (hG : P.Good) {w : World} {bo bb bn n m : Nat} {dcap : Array Value} (hn9 : n < 1000) (xo : (BM P).Bx w bo 70 #[ptr P.ob]) (xb : (BM P).Bx w bb 62 (bxC P.p 0 1 46 47 #[] dcap)) (xn : (BM P).Bx w bn 3 #[.int .i64 ((n : Int) + 1)])
    (ih : ∀ n', n' < m → ∀ w', Mv P.B (P.L ++ P.ex) P.ws w w' → (BM P).OkW w' → (BM P).Makes n' (startD n) 31 #[bxP P dcap, .int .i64 (n : Int), ptr P.ob] w') :
    (BM P).Cont m 53 #[ptr bb, ptr bo, ptr bn] w (fun x _ => DrainD (fun o => hIx o < P.n) x ∧ True) (fun x => #[.int .i64 x]) (fun x s => eachD n x s) := by
  intro n' hn x w' s r hm hj hx
  have hM := bm_ok P hG
  have hw := hM.okj hj
  have hmf := hmf_run
  have l0 := (xb.mv hm).l
  obtain ⟨c0, c1, c2, c3, c4, c5, c6⟩ : w'.cell? ⟨bb, 0, none⟩ = some (ptr P.p) ∧ w'.cell? ⟨bb, 1, none⟩ = some (.int .i64 0) ∧ w'.cell? ⟨bb, 2, none⟩ = some (.func (.func 46) #[] #[]) ∧ w'.cell? ⟨bb, 3, none⟩ = some (.func (.func 47) #[] dcap) ∧ w'.cell? ⟨bb, 4, none⟩ = some (ptr P.p) ∧ w'.cell? ⟨bb, 5, none⟩ = some (.int .i64 1) ∧ w'.cell? ⟨bb, 6, none⟩ = some (.func (.func 46) #[] #[]) := ⟨l0.cell 0, l0.cell 1, l0.cell 2, l0.cell 3, l0.cell 4, l0.cell 5, l0.cell 6⟩
  have hT := drains12_g (m := m) P hG hn9 (xo.mv hm) (xb.mv hm) (xn.mv hm) (fun n' hn w2 h1 h2 => ih n' hn w2 (hm.trans h1) h2)
  have hE : (BM P).Then 54 #[bxP P dcap, .int .i64 x, .func (.func 55) #[] #[ptr bo], .func (.func 57) #[] #[ptr bo, ptr bb, ptr bn]] w' (fun v w'' => (BM P).I r (eachD n x s).2 w'' ∧ (BM P).Code n' (eachD n x s).1 v w'') := by
    unfold eachD
    by_cases hz : x < 0
    · rw [if_pos hz]
      exact each0_g hM ent_drains12 hT hn hz hj trivial
    · rw [if_neg hz]
      have hix : Ix x := by
        rcases hx.1 with h | ⟨o, _, _, h2, h3⟩
        · omega
        · rw [h3]; exact hIx_ix h2
      exact (each_g (bmAr P hG) hM (bm_each P hG n) n' _ _ w' ent_drains12 ent_drains11 hw (bm_lk P w') (bm_do P hG n n' (xo.mv hm)) (hT.less (by omega)) x hix).then hM hj
  clear hT hj hm ih xo xb xn l0 hw hx
  show (BM P).Then _ #[.int .i64 x, ptr bb, ptr bo, ptr bn] w' (fun v w'' => (BM P).I r (eachD n x s).2 w'' ∧ (BM P).Code n' (eachD n x s).1 v w'')
  generalize eachD n x s = R at *
  unfold Gm.Then at *
  go_enter Try.func53, Try.ntmps53
  go_wp2_with fail
  refine (show Calls Try.prog 54 _ w' _ from hE).mono ?_
  rintro e w2 ⟨v, rfl, hq, t2⟩
  go_wp2
  go_ret
  exact ⟨v, rfl, hq, t2⟩

theorem drains_g (P : BP) (hG : P.Good) {dcap : Array Value} : ∀ (m n : Nat), n ≤ 1000 → ∀ w, (BM P).OkW w →
    (BM P).Makes m (startD n) 31 #[bxP P dcap, .int .i64 (n : Int), ptr P.ob] w := by
  intro m
  induction m using Nat.strongRecOn with
  | _ m ih =>
    intro n hn9 w hw
    have hM := bm_ok P hG
    have hmf := hmf_run
    obtain ⟨W2, hW2⟩ : ∃ W2, (((w.alloc (.cells #[ptr P.p, .int .i64 0, .func (.func 46) #[] #[], .func (.func 47) #[] dcap, ptr P.p, .int .i64 1, .func (.func 46) #[] #[]] 62)).alloc (.cells #[.int .i64 (n : Int)] 3)).alloc (.cells #[ptr P.ob] 70)) = W2 := ⟨_, rfl⟩
    have k2 : Turns [] w W2 := by rw [← hW2]; exact (((Turns.refl _ _).alloc _).alloc _).alloc _
    have l0 : Lies W2 w.heap.size 62 (bxC P.p 0 1 46 47 #[] dcap) := by rw [← hW2]; exact ((Lies.new _ _ _).alloc _).alloc _
    have l1 : Lies W2 (w.heap.size + 1) 3 #[.int .i64 (n : Int)] := by rw [← hW2]; exact (Lies.new_of _ _ (by simp)).alloc _
    have l2 : Lies W2 (w.heap.size + 1 + 1) 70 #[ptr P.ob] := by rw [← hW2]; exact Lies.new_of _ _ (by simp)
    cases n with
    | zero =>
      have hc0 : (BM P).Code m (startD 0) .nilFunc W2 := by cases m <;> exact .inl ⟨rfl, rfl⟩
      clear ih l0 l1 l2 hw
      subst hW2
      unfold Gm.Makes
      go_enter Try.func31, Try.ntmps31
      go_wp2_with fail
      go_ret
      exact ⟨_, rfl, hc0, k2⟩
    | succ n =>
      have hR : (BM P).Makes m (startD (n + 1)) 52 #[bxP P dcap, .func (.func 53) #[] #[ptr w.heap.size, ptr (w.heap.size + 1 + 1), ptr (w.heap.size + 1)]] W2 :=
        drain_g (bmAr P hG) hM (V := fun o => hIx o < P.n) (bm_ch P hG (.inl rfl)).hd (fun l o h _ _ => BOk.turn h (.inl rfl) (by unfold Ix0; omega) (by omega)) (bm_drain P hG n) m _ _ W2 ent_drains1 (hw.made hM k2)
          (drains1_g P hG (by omega) (hw.box hM k2 (by omega) l2 (by decide)) (hw.box hM k2 (Nat.le_refl _) l0 (by decide)) (hw.box hM k2 (by omega) (by simpa using l1) (by decide)) (fun n' hn' w' _ h2 => ih n' hn' n (by omega) w' h2))
      have e1 : (((n + 1 : Nat) : Int)) = (n : Int) + 1 := by omega
      obtain ⟨c0, c1, c2, c3, c4, c5, c6⟩ : W2.cell? ⟨w.heap.size, 0, none⟩ = some (ptr P.p) ∧ W2.cell? ⟨w.heap.size, 1, none⟩ = some (.int .i64 0) ∧ W2.cell? ⟨w.heap.size, 2, none⟩ = some (.func (.func 46) #[] #[]) ∧ W2.cell? ⟨w.heap.size, 3, none⟩ = some (.func (.func 47) #[] dcap) ∧ W2.cell? ⟨w.heap.size, 4, none⟩ = some (ptr P.p) ∧ W2.cell? ⟨w.heap.size, 5, none⟩ = some (.int .i64 1) ∧ W2.cell? ⟨w.heap.size, 6, none⟩ = some (.func (.func 46) #[] #[]) := ⟨l0.cell 0, l0.cell 1, l0.cell 2, l0.cell 3, l0.cell 4, l0.cell 5, l0.cell 6⟩
      have d1 : W2.cell? ⟨w.heap.size + 1, 0, none⟩ = some (.int .i64 ((n : Int) + 1)) := by rw [← e1]; exact l1.cell 0
      rw [e1] at hW2
      rw [e1]
      clear ih l0 l1 l2 hw e1
      have hle : ¬ ((n : Int) + 1 ≤ 0) := by omega
      generalize startD (n + 1) = q at *
      unfold Gm.Makes at *
      go_enter Try.func31, Try.ntmps31
      go_upto_region 3 with (fail)
      try rw [hW2]
      clear hW2
      go_wp2_with fail
      refine (show Calls Try.prog 52 _ W2 _ from hR).mono ?_
      rintro e w4 ⟨v, rfl, hc4, t4⟩
      go_wp2
      go_ret
      exact ⟨v, rfl, hc4, k2.trans t4⟩

end Go.Proofs.Ythkklcmmbpffiaa

/- Slices of the call's own, one cell an element, whatever they have; bools among them. (Parted out of Q16.) -/
namespace Go.Proofs.Ythkklcmmbpffiaa
open Go.RowKit Go.ChangeShapes Go.WideShapes

/-- the slice v, of the call's own from block B on, has the values vs, one cell each. -/
structure VRow (W : World) (B : Nat) (E : TypeId) (v : Value) (vs : List Value) : Prop where
  own : W.ownsRow B E 1 v vs.length vs
section
variable {W W' : World} {B : Nat} {E : TypeId} {v : Value} {vs : List Value}
theorem VRow.nil (W : World) (B : Nat) (E : TypeId) : VRow W B E (.slice none 0 0) [] := ⟨⟨rfl, .inl ⟨rfl, rfl⟩⟩⟩
theorem VRow.kept (h : VRow W B E v vs) (k : ∀ g, v.ownBlock = some g → W'.heap[g]? = W.heap[g]?) : VRow W' B E v vs := by
  refine ⟨⟨h.own.1, ?_⟩⟩
  rcases h.own.2 with h1 | ⟨g, cap, cur, h1, h2, h3, h4⟩
  · exact .inl h1
  · exact .inr ⟨g, cap, cur, h1, h2, (k g (by rw [h1]; rfl)).trans h3, h4⟩
theorem VRow.turns {L : List Nat} (h : VRow W B E v vs) (k : Turns L W W') (hL : ∀ g, v.ownBlock = some g → g ∉ L) : VRow W' B E v vs :=
  h.kept fun g hg => k.block g (h.own.lt g hg).2 (hL g hg)
theorem VRow.lies (h : VRow W B E v vs) {g : Nat} (hg : v.ownBlock = some g) : B ≤ g ∧ ∃ cur, Lies W g E cur := by
  rcases h.own.2 with ⟨rfl, _⟩ | ⟨g', cap, cur, rfl, h2, h3, _⟩
  · cases hg
  · simp [Value.ownBlock] at hg
    subst hg
    exact ⟨h2, cur, h3⟩
theorem VRow.slice (h : VRow W B E v vs) : ∃ A cp, v = .slice A vs.length cp ∧ vs.length ≤ maxLen ∧ (0 < vs.length → ∃ g, A = some ⟨g, 0, none⟩ ∧ v.ownBlock = some g ∧ ∀ i u, vs[i]? = some u → W.cell? ⟨g, i, none⟩ = some u) := by
  rcases h.own.2 with ⟨rfl, h0⟩ | ⟨g, cap, cur, rfl, h2, h3, h4, h5, _⟩
  · exact ⟨none, 0, by rw [h0], by simp [h0], fun hn => by omega⟩
  · refine ⟨_, _, rfl, by omega, fun hn => ⟨g, rfl, rfl, fun i u hu => ?_⟩⟩
    have := h.own.cells (g := g) rfl i u hu
    rwa [add_head4] at this

/-- one value more. -/
theorem wpList_vrow {T : TypeId} {z u : Value} {ops : Array Oper} {rest : List Oper} {o : Oper} {a : Act} {Q : Exit → Act → World → Prop} (hT : Try.prog.underlying T = some (.slice E)) {nb : Nat} (hinfo : (Try.prog.info? E).map (fun i => (i.zero, i.size, i.bytes)) = some (some z, 1, nb)) (hnb : nb ≤ 1000) (hz : z.cells.size = 1) (hu : u.oneCell' = true)
    (h : VRow W B E v vs) (hB : B ≤ W.heap.size) (hl : vs.length ≤ 10000) (hgd : Region.wanted o (yielded ops a.tmps) = true) (s x : Operand) (ho : o.op = .call { callee := .builtin .append, args := #[s, x], argTypes := #[T, T] })
    (hs : a.eval s = v) (hx : a.eval x = .slice (some ⟨W.heap.size, 0, none⟩) 1 1)
    (hK : ∀ v' w', VRow w' B E v' (vs ++ [u]) → Turns v.ownBlock.toList W w' → wpList Try.prog ops Q rest (a.put o.dst v') w') : wpList Try.prog ops Q (o :: rest) a (W.alloc (.cells #[u] E)) := by
  obtain ⟨i0, hi0, hz0, hz1, hz2⟩ := info_parts hinfo
  refine wpList_step fun K hK0 => ?_
  rw [if_pos hgd]
  refine wp_append_own _ s x T ho B E i0 _ 1 nb hT hi0 hz0 hz1 hz2 hz (by omega) v vs.length vs hs (h.own.alloc _) ⟨W.heap.size, 0, none⟩ 1 1 [u] hx rfl ?_ ?_ (by simp only [maxLen]; omega) (Nat.le_trans (Nat.mul_le_mul (show vs.length + 1 ≤ 10001 by omega) hnb) (by omega)) (by simp; omega) ?_
  · intro j y hy
    match j, hy with
    | 0, hy =>
      simp at hy
      subst hy
      simp [Addr.add]
  · intro y hy
    simp at hy
    subst hy
    exact hu
  · intro v' w' h1 h2 _
    refine hK0 _ _ (hK v' w' ⟨by simpa using h1⟩ ⟨h2.os, h2.tape, h2.output, ?_, fun k hk hn => ?_⟩)
    · have := h2.size
      simp at this
      omega
    · rw [h2.block k (by simp; omega) (fun e => hn (by rw [← e]; simp))]
      exact Below.heap_alloc W _ k hk
end


section
variable {W : World} {B : Nat} {E : TypeId} {v : Value} {vs : List Value}
/-- a slice that isn't nil, without elements. -/
theorem VRow.empty (W : World) (E : TypeId) (hB : B ≤ W.heap.size) : VRow (W.alloc (.cells #[] E)) B E (.slice (some ⟨W.heap.size, 0, none⟩) 0 0) [] :=
  ⟨⟨rfl, .inr ⟨W.heap.size, 0, #[], rfl, hB, heap_alloc_new W _, Nat.le_refl _, by simp [maxLen], rfl, rfl⟩⟩⟩
/-- bools of the call's own, as code() wants them. -/
theorem VRow.bl {P : SP} {bs : List Bool} (h : VRow W B 4 v (bs.map Value.bool)) (hn : bs.length ≤ 100000) (h1 : ∀ g, v.ownBlock = some g → g ∉ P.L ++ P.ex) (h2 : ∀ g, v.ownBlock = some g → ¬ Rw P.ws W g) : ∃ A cp, v = .slice A bs.length cp ∧ bs.length ≤ cp ∧ BL P W A bs := by
  rcases h.own.2 with ⟨rfl, h0⟩ | ⟨g, cap, cur, rfl, _, h3, h4, _⟩
  · rw [List.length_map] at h0
    exact ⟨none, 0, by rw [h0], by omega, hn, fun hp => by omega⟩
  · rw [List.length_map] at h4 ⊢
    have hl : Lies W g 4 cur := h3
    refine ⟨_, cap, rfl, h4, BL.new (n := bs.length) hl rfl (fun i hi => ?_) hn (h1 g rfl) (h2 g rfl)⟩
    have := h.own.cells (g := g) rfl i (.bool (bs.getD i false)) (by simp [List.getD, hi])
    rw [add_head4, hl.cell i] at this
    exact this
end

end Go.Proofs.Ythkklcmmbpffiaa

/- The inbox in memory: what lies beside the state. -/
namespace Go.Proofs.Ythkklcmmbpffiaa
open Go.RowKit Go.ChangeShapes Go.WideShapes
set_option maxRecDepth 100000

section
variable {n N T : Nat} {all : List Int} {q : Nat → BPr} {s : BSt} {hs : Nat → List Int} {bx fs : List Int} {P : BP}
theorem Gb.w (h : Gb n N T all q s hs bx fs) (hn : n ≤ 1000) {j : Nat} (hj : j < N) : (BM P).W (q j) s := by
  have hw := h.wk j hj
  rcases hq : q j with ⟨m, ql, qn⟩
  rw [hq] at hw
  cases m with
  | eN i =>
    obtain ⟨w1, _, w3⟩ := hw
    obtain ⟨c', e1, _, _⟩ := w3.head (fun e => w1 (w3.none (by omega)))
    have := h.mem_hs hj (x := i) (by rw [e1]; simp)
    show Ix i
    unfold Ix
    omega
  | _ => trivial
theorem Gb.w_alone (h : Gb n N T all q s hs bx fs) (hP : P.n = n) (hn : n ≤ 1000) {j : Nat} (hj : j < N) (d m : Nat) (hT : T + m < 4000000000) : (BM P).W ((BM P).runN (q j) s d m).1 ((BM P).runN (q j) s d m).2.1 := by
  obtain ⟨q', hs', bx', fs', h1, _, h3, _⟩ := h.alone hP hj hn (keeps_true n N all j) trivial d m hT
  rw [← h3]
  exact h1.w hn hj
end

section
variable {P : BP} {r B : Nat} {s : BSt} {W W' : World} {K : List Nat}
theorem BI.down {P : BP} {s : BSt} {W : World} (hG : P.Good) {r r' : Nat} (h : BI P r s W) (k : r' ≤ r) : BI P r' s W := by
  obtain ⟨d, rfl⟩ : ∃ d, r = r' + d := ⟨r - r', by omega⟩
  clear k
  induction d with
  | zero => exact h
  | succ d ih => exact ih ((bm_ok P hG).less _ _ _ h)
theorem BI.turns (h : BI P r s W) (t : Turns K W W') (hK : ∀ b, b ∈ K → b ∉ P.L ∧ ¬ Rw P.ws W b) : BI P r s W' :=
  h.keep (fun b hb hm => t.block b hb fun hk => by
    rcases hm with h1 | h1
    · exact (hK b hk).1 h1
    · exact (hK b hk).2 h1) t.size
theorem BI.apart_ty (h : BI P r s W) {g : Nat} {t : TypeId} {cs : Array Value} (l : Lies W g t cs) (h1 : t ≠ 101) (h2 : t ≠ 111) (h3 : t ≠ 72) (h4 : t ≠ 3) : g ∉ P.L ∧ ¬ Rw P.ws W g := by
  refine ⟨fun hm => ?_, fun hr => ?_⟩
  · rcases BP.L_mem.1 hm with rfl | rfl | rfl
    · exact l.unlike h.ar.head h1 rfl
    · exact l.unlike h.ar.body h2 rfl
    · obtain ⟨v, u, hl, _⟩ := h.ow
      exact l.unlike hl h3 rfl
  · obtain ⟨_, cur, hl⟩ := h.rw hr
    exact l.unlike hl h4 rfl
/-- a block of numbers that isn't the owner's. -/
theorem BI.apart_int (h : BI P r s W) {g : Nat} {cs : Array Value} (l : Lies W g 3 cs) : g ∉ P.L := by
  intro hm
  rcases BP.L_mem.1 hm with rfl | rfl | rfl
  · exact l.unlike h.ar.head (by decide) rfl
  · exact l.unlike h.ar.body (by decide) rfl
  · obtain ⟨v, u, hl, _⟩ := h.ow
    exact l.unlike hl (by decide) rfl
theorem BI.below (hG : P.Good) (h : BI P r s W) {L : List Nat} (hL : ∀ b, b ∈ L → b ∈ P.L ∨ P.B ≤ b) (f : Fr L P.ws W W') : Below P.B W W' :=
  f.below (fun b hb => by
    rcases hL b hb with h1 | h1
    · exact bm_low P hG b h1
    · exact h1) (fun b hb => (h.rw hb).1) ((bm_ok P hG).okw _ _ _ h).base
theorem BI.rows_turns (hG : P.Good) (h : BI P r s W) (t : Turns K W W') (hK : ∀ b, b ∈ K → b ∉ P.L) {b : Nat} (q : Rw P.ws W' b) : Rw P.ws W b :=
  q.same fun x hx => t.cell (((bm_ok P hG).okw _ _ _ h).lt _ ((bm_ok P hG).cells x hx)) fun hk => hK _ hk ((bm_ok P hG).cells x hx)
theorem Gm.Bx.turnsB (hG : P.Good) (h : BI P r s W) {b : Nat} {t : TypeId} {cs : Array Value} (x : (BM P).Bx W b t cs) (k : Turns K W W') (hK : ∀ c, c ∈ K → c ∉ P.L) (hb : b ∉ K) : (BM P).Bx W' b t cs :=
  ⟨x.l.turn k hb, x.out, fun q => x.row (BI.rows_turns hG h k hK q), x.ty, x.outX⟩

/-- the box, and what tells whether its tickets are dead. -/
structure BCtx (P : BP) (bx ba bn : Nat) (W : World) : Prop where
  box : (BM P).Bx W bx 62 (bxC P.p 0 1 46 47 #[] #[ptr ba, ptr bn])
  xa : (BM P).Bx W ba 24 #[ptr P.p]
  xn : (BM P).Bx W bn 3 #[.int .i64 (P.n : Int)]
theorem BCtx.mv {bx ba bn : Nat} (h : BCtx P bx ba bn W) (k : Mv P.B (P.L ++ P.ex) P.ws W W') : BCtx P bx ba bn W' := ⟨h.box.mv k, h.xa.mv k, h.xn.mv k⟩
theorem BCtx.turns {bx ba bn : Nat} (hG : P.Good) (hi : BI P r s W) (h : BCtx P bx ba bn W) (k : Turns K W W') (hK : ∀ c, c ∈ K → c ∉ P.L) (hb : bx ∉ K ∧ ba ∉ K ∧ bn ∉ K) : BCtx P bx ba bn W' := ⟨h.box.turnsB hG hi k hK hb.1, h.xa.turnsB hG hi k hK hb.2.1, h.xn.turnsB hG hi k hK hb.2.2⟩
theorem BCtx.cells {bx ba bn : Nat} (h : BCtx P bx ba bn W) : W.cell? ⟨bx, 0, none⟩ = some (ptr P.p) ∧ W.cell? ⟨bx, 1, none⟩ = some (.int .i64 0) ∧ W.cell? ⟨bx, 2, none⟩ = some (.func (.func 46) #[] #[]) ∧ W.cell? ⟨bx, 3, none⟩ = some (.func (.func 47) #[] #[ptr ba, ptr bn]) ∧ W.cell? ⟨bx, 4, none⟩ = some (ptr P.p) ∧ W.cell? ⟨bx, 5, none⟩ = some (.int .i64 1) ∧ W.cell? ⟨bx, 6, none⟩ = some (.func (.func 46) #[] #[]) :=
  ⟨h.box.l.cell 0, h.box.l.cell 1, h.box.l.cell 2, h.box.l.cell 3, h.box.l.cell 4, h.box.l.cell 5, h.box.l.cell 6⟩

/-- all is laid. -/
theorem begin9 {p c n ob bx ba bn : Nat} {ex : List Nat} {l : List Int} {k : Int} (ha : Arena W p c l k) (hk : k + r ≤ 4611686018427387904) (hl : BOk n l) (how : Lies W ob 72 #[.slice none 0 0, .slice none 0 0]) (hbx : Lies W bx 62 (bxC p 0 1 46 47 #[] #[ptr ba, ptr bn]))
    (hba : Lies W ba 24 #[ptr p]) (hbn : Lies W bn 3 #[.int .i64 (n : Int)]) (h1 : B ≤ p) (h2 : B ≤ c) (h3 : B ≤ ob) (hn : n ≤ 1000) (hr : r ≤ 5000) (hex : ∀ b, b ∈ ex → b < W.heap.size) (hx : bx ∉ ex ∧ ba ∉ ex ∧ bn ∉ ex) :
    (⟨p, c, B, n, ob, ex⟩ : BP).Good ∧ BI ⟨p, c, B, n, ob, ex⟩ r ⟨l, k, [], []⟩ W ∧ BCtx ⟨p, c, B, n, ob, ex⟩ bx ba bn W ∧ ∀ b, ¬ Rw (⟨p, c, B, n, ob, ex⟩ : BP).ws W b := by
  have hrw : ∀ b, ¬ Rw (⟨p, c, B, n, ob, ex⟩ : BP).ws W b := fun b hb => by
    obtain ⟨a, ha, o, m, d, e⟩ := hb
    rcases BP.ws_mem.1 ha with rfl | rfl
    · rw [show W.cell? ⟨ob, 0, none⟩ = some (.slice none 0 0) from how.cell 0] at e; cases e
    · rw [show W.cell? ⟨ob, 1, none⟩ = some (.slice none 0 0) from how.cell 1] at e; cases e
  have hi : BI ⟨p, c, B, n, ob, ex⟩ r ⟨l, k, [], []⟩ W := ⟨ha, hk, hl, ⟨_, _, how, World.ownsRow_nil _ _ _ _, World.ownsRow_nil _ _ _ _, fun g hg => by cases hg⟩, fun i hi => (by cases hi), fun i hi => (by cases hi), ⟨by simp; omega, by simp; omega⟩, hex⟩
  have hG : (⟨p, c, B, n, ob, ex⟩ : BP).Good := ⟨⟨h1, h2, h3⟩, ⟨ha.head.unlike ha.body (by decide), how.unlike ha.head (by decide), how.unlike ha.body (by decide)⟩, hn⟩
  refine ⟨hG, hi, ⟨⟨hbx, (hi.apart_ty hbx (by decide) (by decide) (by decide) (by decide)).1, hrw _, by decide, hx.1⟩, ⟨hba, (hi.apart_ty hba (by decide) (by decide) (by decide) (by decide)).1, hrw _, by decide, hx.2.1⟩, ⟨hbn, hi.apart_int hbn, hrw _, by decide, hx.2.2⟩⟩, hrw⟩
/-- numbers of the law's own, that codes read. -/
theorem IL.of_irow {v : Value} {xs : List Int} (h : IRow W B v xs) (hi : BI P r s W) (hl : xs.length ≤ 100000) (hx : ∀ g, v.ownBlock = some g → g ∉ P.ex ∧ ¬ Rw P.ws W g) : ∃ A cp, v = .slice A xs.length cp ∧ xs.length ≤ cp ∧ IL P W A xs := by
  obtain ⟨A, cp, e, hr⟩ := h.row
  obtain ⟨A', cp', e', hle⟩ := own_slice (n := xs.length) h.own
  rw [e] at e'
  injection e' with e1 _ e3
  subst e1
  subst e3
  refine ⟨A, cp, e, hle, hl, fun hn => ?_⟩
  obtain ⟨a, ea, hb, hc⟩ := hr.at_ hn
  have ho : v.ownBlock = some a.block := by rw [e, ea]; rfl
  obtain ⟨_, cur, hlg⟩ := own_block h.own ho
  obtain ⟨x1, x2⟩ := hx _ ho
  exact ⟨a, ea, hb, fun hm => (List.mem_append.1 hm).elim (hi.apart_int hlg) x1, x2, fun q => q.ne hlg (by decide), hc⟩

/-- a slice of codes, as they lie. -/
theorem VRow.apartB {E : TypeId} {v : Value} {vs : List Value} (h : BI P r s W) (x : VRow W B E v vs) (h1 : E ≠ 101) (h2 : E ≠ 111) (h3 : E ≠ 72) (h4 : E ≠ 3) {g : Nat} (hg : v.ownBlock = some g) : g ∉ P.L ∧ ¬ Rw P.ws W g := by
  obtain ⟨_, cur, hl⟩ := x.lies hg
  exact h.apart_ty hl h1 h2 h3 h4
theorem VRow.frB {E : TypeId} {v : Value} {vs : List Value} (h : BI P r s W) (x : VRow W B E v vs) (f : Fr P.L P.ws W W') (h1 : E ≠ 101) (h2 : E ≠ 111) (h3 : E ≠ 72) (h4 : E ≠ 3) : VRow W' B E v vs :=
  x.kept fun g hg => by
    have := x.apartB h h1 h2 h3 h4 hg
    obtain ⟨_, cur, hl⟩ := x.lies hg
    exact f.block g hl.lt this.1 this.2
end

end Go.Proofs.Ythkklcmmbpffiaa

/- The inbox's putters that tell when they have put: their machine, beside a drain's task that others step. -/
namespace Go.Proofs.Ythkklcmmbpffiaa
open Go.RowKit Go.ChangeShapes Go.WideShapes
set_option maxRecDepth 100000

/-- the box's machine; the variable 'ended', the variable 'drain' and the drain's task; what lies below B is no task of this machine. -/
structure DP where
  P : BP
  eb : Nat
  dv : Nat
  td : Nat
  B : Nat
/-- the state; which tickets were told; has the drain begun? -/
structure DSt where
  b : BSt
  en : List Int
  z : Bool
  /-- once the drain has begun: the variable's value, and its block's cells. -/
  fv : Value
  fc : Array Value
def DSt.told (s : DSt) (t : Int) : DSt := if s.z = false then ⟨s.b, s.en ++ [t], s.z, s.fv, s.fc⟩ else s
def dStep (n : Nat) (q : BPr) (s : DSt) : BPr × DSt := ((bStep n q s.b).1, match q.m with
  | .pU o => if casB s.b.l 0 o = true then DSt.told ⟨(bStep n q s.b).2, s.en, s.z, s.fv, s.fc⟩ (q.l.headD 0) else ⟨(bStep n q s.b).2, s.en, s.z, s.fv, s.fc⟩
  | _ => ⟨(bStep n q s.b).2, s.en, s.z, s.fv, s.fc⟩)
structure EI (D : DP) (r : Nat) (s : DSt) (w : World) : Prop where
  ev : ∃ v, Lies w D.eb 31 #[v] ∧ w.ownsRow D.B 3 1 v s.en.length (intVs s.en) ∧ ∀ g, v.ownBlock = some g → ¬ Rw D.P.ws w g
  td : ∃ v, ∃ d : Nat, Lies w D.td 89 #[v, .int .i64 (d : Int)] ∧ (d = 0 ↔ s.z = false)
  fz : s.z = true → Lies w D.eb 31 #[s.fv] ∧ ∀ g, s.fv.ownBlock = some g → Lies w g 3 s.fc
  low : ∀ b, Rw D.P.ws w b → D.B ≤ b
  he : ∀ i, i ∈ s.en → Ix i
  size : s.en.length + r ≤ 5000
  be : D.B ≤ w.heap.size
def DP.ws (D : DP) : List Addr := D.P.ws ++ [⟨D.eb, 0, none⟩]
def DP.L (D : DP) : List Nat := D.P.L ++ [D.eb]
def DM (D : DP) : Gm DSt BPr where
  ended := bEnded
  step := dStep D.P.n
  W q s := (BM D.P).W q s.b
  I r s w := BI D.P r s.b w ∧ EI D r s w
  J r s w := (BM D.P).J r s.b w ∧ EI D (r + 1) s w
  B := D.B
  L := D.L
  ws := D.ws
  X := [D.td]
structure DP.Good (D : DP) : Prop where
  P : D.P.Good
  ex : D.P.ex = []
  eb : D.eb ≠ D.P.p ∧ D.eb ≠ D.P.c ∧ D.eb ≠ D.P.ob
  lo : D.P.B ≤ D.B
  td : D.td < D.B
  tl : D.P.B ≤ D.td
  el : D.P.B ≤ D.eb

section
variable {D : DP} {r r' : Nat} {s : DSt} {sb : BSt} {w w' : World}
theorem DP.ws_mem {a : Addr} : a ∈ D.ws ↔ a ∈ D.P.ws ∨ a = ⟨D.eb, 0, none⟩ := by simp [DP.ws]
theorem DP.L_mem {b : Nat} : b ∈ D.L ↔ b ∈ D.P.L ∨ b = D.eb := by simp [DP.L]
theorem EI.keep (h : EI D r s w) (hb : BI D.P r' sb w) (k : ∀ b, b < w.heap.size → (b = D.eb ∨ b = D.td ∨ b = D.P.ob ∨ ∃ cur, Lies w b 3 cur) → w'.heap[b]? = w.heap[b]?) (ks : w.heap.size ≤ w'.heap.size) : EI D r s w' := by
  obtain ⟨v, hl, hv, hn⟩ := h.ev
  obtain ⟨tv, d, ht, hd⟩ := h.td
  obtain ⟨vo, uo, hlo, _⟩ := hb.ow
  have hob : w'.heap[D.P.ob]? = w.heap[D.P.ob]? := k _ hlo.lt (.inr (.inr (.inl rfl)))
  have hrw : ∀ {b}, Rw D.P.ws w' b → Rw D.P.ws w b := fun q => q.same fun x hx => by
    rcases BP.ws_mem.1 hx with rfl | rfl
    · exact World.cell?_of_block (w := w) hob
    · exact World.cell?_of_block (w := w) hob
  refine ⟨⟨v, (k _ hl.lt (.inl rfl)).trans hl, own_keep hv fun g hg => ?_, fun g hg q => hn g hg (hrw q)⟩, ⟨tv, d, (k _ ht.lt (.inr (.inl rfl))).trans ht, hd⟩, fun e => ⟨(k _ hl.lt (.inl rfl)).trans (h.fz e).1, fun g hg => (k _ ((h.fz e).2 g hg).lt (.inr (.inr (.inr ⟨_, (h.fz e).2 g hg⟩)))).trans ((h.fz e).2 g hg)⟩, fun b q => h.low b (hrw q), h.he, h.size, Nat.le_trans h.be ks⟩
  obtain ⟨_, cur, h1⟩ := own_block hv hg
  exact k _ h1.lt (.inr (.inr (.inr ⟨cur, h1⟩)))
theorem IsTask.down {B B' b : Nat} (h : IsTask B w b) (k : B' ≤ B) : IsTask B' w b := ⟨Nat.le_trans k h.1, h.2⟩
theorem Mv.down {B B' : Nat} {L : List Nat} {ws : List Addr} (h : Mv B L ws w w') (k : B' ≤ B) : Mv B' L ws w w' := ⟨h.os, h.tape, h.output, h.size, fun b hb hn hr => (h.block b hb hn hr).imp id fun q => q.down k, h.rows⟩
theorem EI.tasks (hG : D.Good) (h : EI D r s w) (hb : BI D.P r' sb w) (k : Mv D.B [] [] w w') : EI D r s w' := by
  obtain ⟨v, hl, _⟩ := h.ev
  obtain ⟨vo, uo, hlo, _⟩ := hb.ow
  refine h.keep hb (fun b hlt hm => ?_) k.size
  rcases k.block b hlt (by simp) (by rintro ⟨a, ha, _⟩; cases ha) with e | e
  · exact e
  · exfalso
    rcases hm with rfl | rfl | rfl | ⟨cur, h1⟩
    · exact e.ne hl (by decide)
    · have := e.1; have := hG.td; omega
    · exact e.ne hlo (by decide)
    · exact e.ne h1 (by decide)
theorem dm_ok (D : DP) (hG : D.Good) : (DM D).Ok where
  less r s w h := ⟨(bm_ok D.P hG.P).less _ _ _ h.1, ⟨h.2.ev, h.2.td, h.2.fz, h.2.low, h.2.he, by have := h.2.size; omega, h.2.be⟩⟩
  task r s w w' k h := ⟨BI.tasks (Mv.down (show Mv D.B [] [] w w' from k) hG.lo) h.1, h.2.tasks hG h.1 k⟩
  ji r s w h := ⟨(bm_ok D.P hG.P).ji _ _ _ h.1, ⟨h.2.ev, h.2.td, h.2.fz, h.2.low, h.2.he, by have := h.2.size; omega, h.2.be⟩⟩
  jtask r s w w' k h := ⟨(bm_ok D.P hG.P).jtask _ _ _ _ (Mv.down (show Mv D.B [] [] w w' from k) hG.lo) h.1, h.2.tasks hG ((bm_ok D.P hG.P).ji _ _ _ h.1) k⟩
  idle r s w h := ⟨(bm_ok D.P hG.P).idle _ _ _ h.1, h.2⟩
  okw r s w h := by
    obtain ⟨v, hl, hv, hn⟩ := h.2.ev
    obtain ⟨tv, d, ht, hd⟩ := h.2.td
    refine ⟨fun b hb => ?_, fun b hb => ?_, h.2.be, fun b hb => ?_⟩
    · rcases DP.L_mem.1 hb with h1 | rfl
      · exact ((bm_ok D.P hG.P).okw _ _ _ h.1).lt b h1
      · exact hl.lt
    · have hb : b ∈ [D.td] := hb
      rw [List.mem_singleton] at hb
      subst hb
      exact ht.lt
    · obtain ⟨a, ha, o, n, c, e⟩ := hb
      rcases DP.ws_mem.1 ha with h1 | rfl
      · have hr : Rw D.P.ws w b := ⟨a, h1, o, n, c, e⟩
        exact ⟨h.2.low b hr, by obtain ⟨_, cur, h2⟩ := h.1.rw hr; exact h2.lt⟩
      · rw [show w.cell? ⟨D.eb, 0, none⟩ = some v from hl.cell 0] at e
        injection e with e
        obtain ⟨h3, cur, h4⟩ := own_lies hv e
        exact ⟨h3, h4.lt⟩
  cells a ha := by
    rcases DP.ws_mem.1 ha with h1 | rfl
    · exact DP.L_mem.2 (.inl ((bm_ok D.P hG.P).cells a h1))
    · exact DP.L_mem.2 (.inr rfl)
def dmAr (D : DP) (hG : D.Good) : (DM D).Ar D.P.p D.P.c where
  l s := s.b.l
  k s := s.b.k
  put s l k := ⟨{ s.b with l := l, k := k }, s.en, s.z, s.fv, s.fc⟩
  hp := DP.L_mem.2 (.inl (BP.L_mem.2 (.inl rfl)))
  hc := DP.L_mem.2 (.inl (BP.L_mem.2 (.inr (.inl rfl))))
  sep a ha := by
    rcases DP.ws_mem.1 ha with h1 | rfl
    · exact (bmAr D.P hG.P).sep a h1
    · exact ⟨hG.eb.1, hG.eb.2.1⟩
  ok := BOk D.P.n
  okI r s w h := h.1.ok
  ar r s w h := h.1.ar
  room r s w h := (bmAr D.P hG.P).room r s.b w h.1
  aft r s w w' l' k' h ha ho hl hk := ⟨(bmAr D.P hG.P).aft r s.b w w' l' k' h.1 ha ho hl hk, by
    obtain ⟨v, hlv, _⟩ := h.2.ev
    obtain ⟨tv, d, ht, _⟩ := h.2.td
    obtain ⟨vo, uo, hlo, _⟩ := h.1.ow
    have hb : BI D.P (r + 1) s.b w := h.1
    have hE : EI D (r + 1) s w' := h.2.keep hb (fun b hlt hm => ha.2.block b hlt fun hin => by
      have hty : ∃ t cs, Lies w b t cs ∧ t ≠ 101 ∧ t ≠ 111 := by
        rcases hm with rfl | rfl | rfl | ⟨cur, h1⟩
        · exact ⟨_, _, hlv, by decide, by decide⟩
        · exact ⟨_, _, ht, by decide, by decide⟩
        · exact ⟨_, _, hlo, by decide, by decide⟩
        · exact ⟨_, _, h1, by decide, by decide⟩
      obtain ⟨t, cs, h1, h2, h3⟩ := hty
      simp at hin
      rcases hin with rfl | rfl
      · exact h1.unlike hb.ar.head h2 rfl
      · exact h1.unlike hb.ar.body h3 rfl) ha.2.size
    exact ⟨hE.ev, hE.td, hE.fz, hE.low, hE.he, hE.size, hE.be⟩⟩
theorem dm_ch (D : DP) (hG : D.Good) {h : Int} (hh : h = 0 ∨ h = 1) : Gm.ChOk (dmAr D hG) h (fun i => i + 2) (fun o => hIx o < D.P.n) (fun x => x ≤ D.P.n) (fun i => 0 ≤ i ∧ i < D.P.n) where
  hd l hl := (bm_ch D.P hG.P hh).hd l hl
  nx l o h ho hn := (bm_ch D.P hG.P hh).nx l o h ho hn
  tk l o x h ho a b hx hu := (bm_ch D.P hG.P hh).tk l o x h ho a b hx hu
  ly l o i h ho hy := (bm_ch D.P hG.P hh).ly l o i h ho hy
  tn l o i h a b hy := (bm_ch D.P hG.P hh).tn l o i h a b hy
  ix i hy := (bm_ch D.P hG.P hh).ix i hy
  room l i hl hy := (bm_ch D.P hG.P hh).room l i hl hy
theorem dm_put (D : DP) (hG : D.Good) (t : Int) (l : List Int) (n : Nat) : Gm.PutQ (dmAr D hG) 0 1 (fun i => i + 2) (fun i => i + (2 + D.P.n)) t ⟨.pR, t :: l, n⟩ (fun o => ⟨.pD o, t :: l, n⟩) (fun o => ⟨.pS o, t :: l, n⟩) (fun o => ⟨.pU o, t :: l, n⟩) (fun o => ⟨.pN o, t :: l, n⟩) (fun o y => ⟨.pT o y, t :: l, n⟩) (fun i => ⟨.pA i, t :: l, n⟩) (fun i o => ⟨.pB i o, t :: l, n⟩) (fun i o => ⟨.pC i o, t :: l, n⟩) (fun _ => True) (fun s => (startP l, s.told t)) where
  eR := rfl
  eD _ := rfl
  eS _ := rfl
  eU _ := rfl
  eN _ := rfl
  eT _ _ := rfl
  sR _ := rfl
  sD _ _ := rfl
  sN _ _ := rfl
  sT _ _ _ := rfl
  free i := ⟨rfl, fun _ => rfl, fun _ => rfl, fun _ => rfl, fun _ _ => rfl, fun o s => by
    show dStep _ _ _ = _
    unfold dStep
    show ((bStep _ _ _).1, (⟨(bStep _ _ _).2, _, _, _, _⟩ : DSt)) = _
    unfold bStep
    dsimp only
    split
    · rename_i hc
      rw [if_pos (show casB ((dmAr D hG).l s) 1 o = true from hc)]
      rfl
    · rename_i hc
      rw [if_neg (show ¬ casB ((dmAr D hG).l s) 1 o = true from hc)]
      rfl, fun _ _ _ _ _ => trivial⟩
  sS _ _ := rfl
  sU o s := by
    show dStep _ _ _ = _
    unfold dStep
    show ((bStep _ _ _).1, _) = _
    by_cases hc : casB s.b.l 0 o = true
    · rw [if_pos (show casB ((dmAr D hG).l s) 0 o = true from hc)]
      dsimp only
      rw [if_pos hc]
      unfold bStep
      dsimp only
      rw [if_pos hc]
      rfl
    · rw [if_neg (show ¬ casB ((dmAr D hG).l s) 0 o = true from hc)]
      dsimp only
      rw [if_neg hc]
      unfold bStep
      dsimp only
      rw [if_neg hc]
      rfl
  wU _ _ _ _ _ := trivial
theorem dm_lk (D : DP) (w : World) : (DM D).Lk w 46 #[] (fun i => i + 2) := ⟨ent_link9, fun w' i _ hi => (link9_any i hi w').mono fun e w2 h => ⟨h.1, by rw [h.2]; exact Turns.refl _ _⟩⟩
end

end Go.Proofs.Ythkklcmmbpffiaa

/- Tasks over any machine: one that ends, however many steps it may have; the inbox's tasks, as they are made. -/
namespace Go.Proofs.Ythkklcmmbpffiaa
open Go.RowKit Go.ChangeShapes Go.WideShapes
set_option maxRecDepth 100000

section
variable {St Pr : Type} {M : Gm St Pr}
theorem runN_same {q : Pr} {s : St} {d m0 : Nat} (h : M.ended (M.runN q s d m0).1 = true) {j : Nat} (hj : m0 ≤ j) : M.runN q s d j = M.runN q s d m0 := by
  have := runN_end h (j - m0)
  rwa [show m0 + (j - m0) = j by omega] at this
set_option maxRecDepth 100000 in
theorem finish_e {m m0 : Nat} {q : Pr} {s : St} {d t : Nat} {w : World} (hM : M.Ok) (most : Nat) (hmost : m0 ≤ most) (hbig : most < 4611686018427387904) (hm : m0 < m) (h : M.Task m q d t w) (hi : M.I m s w) (hend : M.ended (M.runN q s d m0).1 = true) (hW : ∀ j, j ≤ m0 → M.ended (M.runN q s d j).1 = false → M.W (M.runN q s d j).1 (M.runN q s d j).2.1) (hd : d + m < 4611686018427387904) :
    Calls Try.prog 18 #[ptr t, .int .i64 most] w fun e w' => e = .returned (.bool true) ∧
      M.Task (m - (m0 + 1)) (M.runN q s d m0).1 (M.runN q s d m0).2.2 t w' ∧ M.I (m - (m0 + 1)) (M.runN q s d m0).2.1 w' ∧ Fr (t :: M.L) M.ws w w' ∧ Mv M.B (M.L ++ M.X) M.ws w w' := by
  have h0 : M.Und m q s d t w 0 w := ⟨h, hi, Fr.refl _ _ _, Mv.refl _ _ _ _⟩
  have downI : ∀ k n (W : World) s', M.I (n + k) s' W → M.I n s' W := fun k => by
    induction k with
    | zero => exact fun n W s' h => h
    | succ k ih => exact fun n W s' h => ih n W s' (hM.less _ _ _ h)
  have fin : ∀ j W, j ≤ m0 + 1 → M.runN q s d j = M.runN q s d m0 → M.Und m q s d t w j W → M.Task (m - (m0 + 1)) (M.runN q s d m0).1 (M.runN q s d m0).2.2 t W ∧ M.I (m - (m0 + 1)) (M.runN q s d m0).2.1 W ∧ Fr (t :: M.L) M.ws w W ∧ Mv M.B (M.L ++ M.X) M.ws w W := fun j W hj e hU => by
    have h1 := hU.tk
    have h2 := hU.inv
    rw [e] at h1 h2
    exact ⟨h1.to (by omega), downI (m0 + 1 - j) _ _ _ (by rw [show m - (m0 + 1) + (m0 + 1 - j) = m - j by omega]; exact h2), hU.fr, hU.mo⟩
  clear h hi
  go_enter Try.func18, Try.ntmps18
  go_wp2_with fail
  go_loopw [6] (fun i wr => ∃ j : Nat, i = .int .i64 j ∧ j ≤ m0 ∧ M.Und m q s d t w j wr) (fun i _ => (most - intOf i).toNat)
  case atStart => exact ⟨0, rfl, by omega, h0⟩
  case round =>
    clear h0
    obtain ⟨j, rfl, hj, hU⟩ := hrel
    by_cases hlt : j < most
    · have c1 := hU.next hM (by omega) (hW j hj) hd
      cases hb : M.ended (M.runN q s d (j + 1)).1 with
      | true =>
        rw [hb] at c1
        have e1 : M.runN q s d (j + 1) = M.runN q s d m0 := by
          rcases (by omega : j + 1 ≤ m0 ∨ j = m0) with h1 | h1
          · exact (runN_same hb h1).symm
          · subst h1; exact runN_same hend (by omega)
        have F := Lib.hid (fin (j + 1))
        have E1 := Lib.hid e1
        have HB := Lib.hid hb
        clear hU e1 hb fin
        go_wp2_with fail
        refine c1.mono ?_
        rintro e w1 ⟨rfl, hU⟩
        have c2 := ended_g hU.tk
        rw [HB.out] at c2
        have HU := Lib.hid (F.out _ (by omega) E1.out hU)
        clear hU c1
        go_wp2_with fail
        refine c2.mono ?_
        rintro e w1 ⟨rfl, rfl⟩
        go_wp2
        go_ret
        exact ⟨rfl, HU.out⟩
      | false =>
        have hjm : j + 1 ≤ m0 := by
          rcases (by omega : j + 1 ≤ m0 ∨ j = m0) with h1 | h1
          · exact h1
          · subst h1
            rw [runN_same hend (show j ≤ j + 1 by omega), hend] at hb
            cases hb
        rw [hb] at c1
        clear hU hb fin
        go_wp2_with fail
        refine c1.mono ?_
        rintro e w1 ⟨rfl, hU⟩
        go_wp2
        go_roundw
        case rel => exact ⟨j + 1, by go_num, hjm, hU⟩
        case measure => simp [intOf]; omega
    · obtain rfl : j = most := by omega
      obtain rfl : j = m0 := by omega
      have c2 := ended_g hU.tk
      rw [hend] at c2
      have HU := Lib.hid (fin j _ (by omega) rfl hU)
      clear hU fin
      go_wp2_with fail
      refine c2.mono ?_
      rintro e w1 ⟨rfl, rfl⟩
      go_wp2
      go_ret
      exact ⟨rfl, HU.out⟩
/-- one of all tasks is finished. -/
theorem Gm.All.fin {m m0 N : Nat} {ts : Nat → Nat} {c : Cfg St Pr} {W : World} (hM : M.Ok) (h : M.All m N ts c W) (hinj : ∀ i j, i < N → j < N → ts i = ts j → i = j) {j : Nat} (hj : j < N) (most : Nat) (hmost : m0 ≤ most) (hbig : most < 4611686018427387904) (hm : m0 < m) (hend : M.ended (M.runN (c.q j) c.s (c.d j) m0).1 = true)
    (hW : ∀ i, i ≤ m0 → M.ended (M.runN (c.q j) c.s (c.d j) i).1 = false → M.W (M.runN (c.q j) c.s (c.d j) i).1 (M.runN (c.q j) c.s (c.d j) i).2.1) (hd : c.d j + m < 4611686018427387904) :
    Calls Try.prog 18 #[ptr (ts j), .int .i64 most] W fun e w' => e = .returned (.bool true) ∧ M.All (m - (m0 + 1)) N ts ⟨(M.runN (c.q j) c.s (c.d j) m0).2.1, updF c.q j (M.runN (c.q j) c.s (c.d j) m0).1, updF c.d j (M.runN (c.q j) c.s (c.d j) m0).2.2, c.n⟩ w' ∧ Fr (tsL N ts ++ M.L) M.ws W w' ∧ Mv M.B (M.L ++ M.X) M.ws W w' := by
  refine (finish_e hM most hmost hbig hm (h.tk j hj) h.inv hend hW hd).mono ?_
  rintro e w' ⟨he1, a1, a2, a3, a4⟩
  refine ⟨he1, ⟨fun i hi => ?_, a2⟩, a3.more (fun b hb => ?_), a4⟩
  · by_cases hij : i = j
    · subst hij
      show M.Task _ (updF c.q i _ i) (updF c.d i _ i) _ _
      rw [updF_same, updF_same]
      exact a1
    · show M.Task _ (updF c.q j _ i) (updF c.d j _ i) _ _
      rw [updF_ne _ _ hij, updF_ne _ _ hij]
      have h1 := (h.tk i hi).to (m := m - (m0 + 1)) (by omega)
      refine h1.keep (a3.block _ h1.lt (fun hm => ?_) h1.row) a4
      rcases List.mem_cons.1 hm with h2 | h2
      · exact hij (hinj i j hi hj h2)
      · exact h1.out h2
  · rcases List.mem_cons.1 hb with h1 | h1
    · subst h1
      exact List.mem_append.2 (.inl (tsL_mem.2 ⟨j, hj, rfl⟩))
    · exact List.mem_append.2 (.inr h1)
theorem runN_dle {q : Pr} {s : St} {d : Nat} (m : Nat) : (M.runN q s d m).2.2 ≤ d + m := runN_dd m
end

section
variable {P : BP} {r B : Nat} {s : BSt} {W W' : World} {K : List Nat}
theorem mv_tasks (hG : P.Good) (h : BI P r s W) (t : Turns K W W') (hK : ∀ b, b ∈ K → IsTask P.B W b) : Mv P.B (P.L ++ P.ex) P.ws W W' :=
  Mv.of_turns t (fun b hb => .inr (.inr (hK b hb))) fun x hx => ⟨((bm_ok P hG).okw _ _ _ h).lt _ ((bm_ok P hG).cells x hx), fun hm => by
    obtain ⟨v, u, hl, _⟩ := h.ow
    rcases BP.ws_mem.1 hx with rfl | rfl
    · exact (hK _ hm).ne hl (by decide)
    · exact (hK _ hm).ne hl (by decide)⟩
theorem BI.tasked (h : BI P r s W) (t : Turns K W W') (hK : ∀ b, b ∈ K → IsTask P.B W b) : BI P r s W' :=
  BI.tasks (Mv.of_turns t (fun b hb => .inr (.inr (hK b hb))) fun x hx => (by cases hx)) h

/-- so many tasks were made, and nothing else has come about. -/
structure Tk9 (P : BP) (r N : Nat) (ts : Nat → Nat) (qs : Nat → BPr) (tv : Value) (W : World) : Prop where
  tk : ∀ k, k < N → (BM P).Task r (qs k) 0 (ts k) W
  inj : ∀ i j, i < N → j < N → ts i = ts j → i = j
  tv : VRow W P.B 35 tv ((List.range N).map fun k => ptr (ts k))
section
variable {N : Nat} {ts : Nat → Nat} {qs : Nat → BPr} {tv tv' : Value}
theorem Tk9.turns (hG : P.Good) (hi : BI P r s W) (h : Tk9 P r N ts qs tv W) (t : Turns [] W W') : Tk9 P r N ts qs tv W' :=
  ⟨fun k hk => (h.tk k hk).keep (t.block _ (h.tk k hk).lt (by simp)) (((bm_ok P hG).okw _ _ _ hi).mv (bm_ok P hG) t), h.inj, h.tv.turns t (by simp)⟩
theorem Tk9.isTask (h : Tk9 P r N ts qs tv W) : ∀ b, b ∈ tv.ownBlock.toList → IsTask P.B W b := fun b hb => by
  obtain ⟨h1, cur, h2⟩ := h.tv.lies (g := b) (by simpa using hb)
  exact ⟨h1, _, _, by decide, h2⟩
/-- one more: its code was made, it is laid, and stands behind the others. -/
theorem Tk9.next (hG : P.Good) (hi : BI P r s W) (h : Tk9 P r N ts qs tv W) {q : BPr} {v : Value} (hc : (BM P).Code r q v W) (t : Turns tv.ownBlock.toList (W.alloc (.cells #[v, .int .i64 0] 89)) W')
    (hv : VRow W' P.B 35 tv' ((List.range N).map (fun k => ptr (ts k)) ++ [ptr W.heap.size])) : Tk9 P r (N + 1) (updF ts N W.heap.size) (updF qs N q) tv' W' ∧ BI P r s W' ∧ Mv P.B (P.L ++ P.ex) P.ws W W' ∧ Turns tv.ownBlock.toList W W' := by
  have hM := bm_ok P hG
  have hw := hM.okw _ _ _ hi
  have k1 : Turns [] W (W.alloc (.cells #[v, .int .i64 0] 89)) := (Turns.refl _ _).alloc _
  have tk := Gm.Task.made hM hw hc
  have hi1 := hi.turns k1 (by simp)
  have h1 := h.turns hG hi k1
  have hK := h1.isTask
  have m1 := hw.mv hM k1
  have m2 := mv_tasks hG hi1 t hK
  have ne : ∀ {b : Nat} {cs : Array Value}, Lies (W.alloc (.cells #[v, .int .i64 0] 89)) b 89 cs → b ∉ tv.ownBlock.toList := fun hl hm => by
    obtain ⟨_, cur, h2⟩ := h1.tv.lies (g := _) (by simpa using hm)
    exact hl.unlike h2 (by decide) rfl
  refine ⟨⟨fun k hk => ?_, fun i j hi' hj' e => ?_, ?_⟩, hi1.tasked t hK, m1.trans m2, (k1.more (by simp)).trans t⟩
  · by_cases e : k = N
    · subst e
      rw [updF_same, updF_same]
      obtain ⟨u, hl, _⟩ := tk.at_
      exact tk.keep (t.block _ tk.lt (ne hl)) m2
    · rw [updF_ne _ _ e, updF_ne _ _ e]
      have tk' := h1.tk k (by omega)
      obtain ⟨u, hl, _⟩ := tk'.at_
      exact tk'.keep (t.block _ tk'.lt (ne hl)) m2
  · have hlt : ∀ k, k < N → ts k < W.heap.size := fun k hk => (h.tk k hk).lt
    by_cases e1 : i = N <;> by_cases e2 : j = N
    · omega
    · rw [e1, updF_same, updF_ne _ _ e2] at e
      have := hlt j (by omega)
      omega
    · rw [e2, updF_same, updF_ne _ _ e1] at e
      have := hlt i (by omega)
      omega
    · rw [updF_ne _ _ e1, updF_ne _ _ e2] at e
      exact h.inj i j (by omega) (by omega) e
  · rw [List.range_succ, List.map_append]
    have e : (List.range N).map (fun k => ptr (updF ts N W.heap.size k)) = (List.range N).map (fun k => ptr (ts k)) := List.map_congr_left fun k hk => by
      have := List.mem_range.1 hk
      rw [updF_ne _ _ (by omega)]
    rw [e, List.map_singleton, updF_same]
    exact hv
/-- the first one, in a slice of its own. -/
theorem Tk9.first (hG : P.Good) (hi : BI P r s W) {q : BPr} {v : Value} (hc : (BM P).Code r q v W) :
    Tk9 P r 1 (fun _ => W.heap.size) (fun _ => q) (.slice (some ⟨W.heap.size + 1, 0, none⟩) 1 1) ((W.alloc (.cells #[v, .int .i64 0] 89)).alloc (.cells #[ptr W.heap.size] 35)) := by
  have hM := bm_ok P hG
  have hw := hM.okw _ _ _ hi
  have k1 : Turns [] W (W.alloc (.cells #[v, .int .i64 0] 89)) := (Turns.refl _ _).alloc _
  have tk := Gm.Task.made hM hw hc
  have hi1 := hi.turns k1 (by simp)
  have k2 : Turns [] (W.alloc (.cells #[v, .int .i64 0] 89)) ((W.alloc (.cells #[v, .int .i64 0] 89)).alloc (.cells #[ptr W.heap.size] 35)) := (Turns.refl _ _).alloc _
  refine ⟨fun k hk => tk.keep (k2.block _ tk.lt (by simp)) ((hM.okw _ _ _ hi1).mv hM k2), fun i j hi' hj' _ => by omega, ⟨rfl, .inr ⟨W.heap.size + 1, 1, #[ptr W.heap.size], rfl, ?_, ?_, Nat.le_refl _, by simp only [maxLen]; simp, rfl, rfl⟩⟩⟩
  · have := hw.base
    show P.B ≤ _
    have : P.B ≤ W.heap.size := this
    omega
  · have := heap_alloc_new (W.alloc (.cells #[v, .int .i64 0] 89)) (.cells #[ptr W.heap.size] 35)
    simpa using this
theorem Tk9.trow (h : Tk9 P r N ts qs tv W) (hi : BI P r s W) (hN : N ≤ 100) : ∃ A cp, tv = .slice A N cp ∧ (BM P).TRow W A N ts := by
  obtain ⟨A, cp, h1, _, h2⟩ := h.tv.slice
  have hl : ((List.range N).map fun i => ptr (ts i)).length = N := by simp
  rw [hl] at h1 h2
  refine ⟨A, cp, h1, by simp only [maxLen]; omega, h.inj, fun hn => ?_⟩
  obtain ⟨g, rfl, h3, h4⟩ := h2 hn
  obtain ⟨_, cur, hlg⟩ := h.tv.lies h3
  have ha := hi.apart_ty hlg (by decide) (by decide) (by decide) (by decide)
  refine ⟨_, rfl, hlg.lt, ha.1, ha.2, fun i hi' e => ?_, fun i hi' => ?_⟩
  · obtain ⟨v, hv, _⟩ := (h.tk i hi').at_
    exact hlg.unlike hv (by decide) e
  · rw [Addr.add_mid, Nat.zero_add]
    exact h4 i _ (by simp [hi'])
theorem Tk9.all (h : Tk9 P r N ts qs tv W) (hi : BI P r s W) : (BM P).All r N ts ⟨s, qs, fun _ => 0, 0⟩ W := ⟨fun i hi' => h.tk i hi', hi⟩
end
end

end Go.Proofs.Ythkklcmmbpffiaa

/- Tasks of a slice of codes, one behind the other. -/
namespace Go.Proofs.Ythkklcmmbpffiaa
open Go.RowKit Go.ChangeShapes Go.WideShapes
set_option maxRecDepth 100000

/-- i tasks are through. -/
structure Seq9 (w0 : World) (P : BP) (bx ba bn B0 g most cnt : Nat) (pr : Nat → BPr) (cv : Nat → Value) (F : Nat → BSt → Prop) (i : Nat) (W : World) : Prop where
  si : ∃ s, BI P (most * (cnt - i)) s W ∧ F i s
  code : ∀ k, i ≤ k → k < cnt → (BM P).Code (most * cnt) (pr k) (cv k) W
  row : ∃ cs, Lies W g 38 cs ∧ ∀ k, k < cnt → cs[k]? = some (cv k)
  ctx : BCtx P bx ba bn W
  be : Below B0 w0 W
/-- what a task alone does. -/
def Does9 (P : BP) (most cnt : Nat) (pr : Nat → BPr) (F : Nat → BSt → Prop) : Prop :=
  ∀ i s, i < cnt → F i s → (∀ j, j < most → (BM P).W ((BM P).runN (pr i) s 0 j).1 ((BM P).runN (pr i) s 0 j).2.1) ∧ (BM P).ended ((BM P).runN (pr i) s 0 most).1 = true ∧ F (i + 1) ((BM P).runN (pr i) s 0 most).2.1
section
variable {w0 : World} {P : BP} {bx ba bn B0 g most cnt i : Nat} {pr : Nat → BPr} {cv : Nat → Value} {F : Nat → BSt → Prop} {W : World}
theorem Seq9.next (hG : P.Good) (hD : Does9 P most cnt pr F) (hB : B0 ≤ P.B) (h : Seq9 w0 P bx ba bn B0 g most cnt pr cv F i W) (hi : i < cnt) (hm : most * cnt < 100000) :
    Calls Try.prog 18 #[ptr W.heap.size, .int .i64 most] (W.alloc (.cells #[cv i, .int .i64 0] 89)) fun e w' => e = .returned (.bool true) ∧ Seq9 w0 P bx ba bn B0 g most cnt pr cv F (i + 1) w' := by
  obtain ⟨s, hs, hf⟩ := h.si
  have hM := bm_ok P hG
  obtain ⟨d1, d2, d3⟩ := hD i s hi hf
  have hc := h.code i (Nat.le_refl _) hi
  have hw := hM.okw _ _ _ hs
  have hle : most * (cnt - i) ≤ most * cnt := Nat.mul_le_mul_left _ (by omega)
  have tk := (Gm.Task.made hM hw hc).to hle
  have k : Turns [] W (W.alloc (.cells #[cv i, .int .i64 0] 89)) := (Turns.refl _ _).alloc _
  have hs1 := hs.turns k (by simp)
  have e1 : most * (cnt - i) = most * (cnt - (i + 1)) + most := by
    obtain ⟨d, hd⟩ : ∃ d, cnt - i = d + 1 := ⟨cnt - i - 1, by omega⟩
    rw [hd, show cnt - (i + 1) = d by omega, Nat.mul_succ]
  refine (finish_g hM most (by omega) tk hs1 (fun j hj _ => d1 j hj) (by omega)).mono ?_
  rintro e w' ⟨rfl, _, hi2, f2, m2⟩
  rw [d2]
  have f2 : Fr (W.heap.size :: P.L) P.ws (W.alloc (.cells #[cv i, .int .i64 0] 89)) w' := f2
  have m2 : Mv P.B (P.L ++ P.ex) P.ws (W.alloc (.cells #[cv i, .int .i64 0] 89)) w' := m2
  have km : Mv P.B (P.L ++ P.ex) P.ws W (W.alloc (.cells #[cv i, .int .i64 0] 89)) := hw.mv hM k
  have e2 : most * (cnt - i) - most = most * (cnt - (i + 1)) := by omega
  rw [e2] at hi2
  obtain ⟨cs, hl, hcs⟩ := h.row
  have ap := hs.apart_ty hl (by decide) (by decide) (by decide) (by decide)
  have hl1 := hl.turn k (by simp)
  have ap1 := hs1.apart_ty hl1 (by decide) (by decide) (by decide) (by decide)
  refine ⟨rfl, ⟨_, hi2, d3⟩, fun j h1 h2 => (h.code j (by omega) h2).mv (km.trans m2), ⟨cs, ?_, hcs⟩, h.ctx.mv (km.trans m2), ?_⟩
  · refine (f2.block g hl1.lt (fun hm => ?_) ap1.2).trans hl1
    rcases List.mem_cons.1 hm with h1 | h1
    · have := hl.lt
      omega
    · exact ap1.1 h1
  · have hz : B0 ≤ W.heap.size := by have := hw.base; have : P.B ≤ W.heap.size := this; omega
    exact (h.be.trans (k.below (by simp) hz)).trans ((BI.below hG hs1 (fun b hb => by
      rcases List.mem_cons.1 hb with h1 | h1
      · right; rw [h1]; exact hw.base
      · exact .inl h1) f2).mono hB)
theorem Seq9.cell (h : Seq9 w0 P bx ba bn B0 g most cnt pr cv F i W) (hi : i < cnt) : W.cell? ⟨g, i, none⟩ = some (cv i) ∧ IsCode (cv i) := by
  obtain ⟨cs, hl, hcs⟩ := h.row
  exact ⟨(hl.cell i).trans (hcs i hi), (h.code i (Nat.le_refl _) hi).is⟩
end

/-- Puts, a drain, Puts, two drains. -/
def seqP (one two : List Int) : Nat → BPr
  | 0 => startP one
  | 1 => startD 1
  | 2 => startP two
  | _ => startD 2
def seqAll (one two : List Int) : Nat → List Int
  | 0 => []
  | 1 => one
  | 2 => one
  | _ => one ++ two
def seqBx (one two : List Int) : Nat → List Int
  | 1 => one.reverse
  | 3 => two.reverse
  | _ => []
def seqGot (one two : List Int) : Nat → List Int
  | 0 => []
  | 1 => []
  | 2 => one.reverse
  | 3 => one.reverse
  | _ => one.reverse ++ two.reverse
def seqEnds (one two : List Int) : Nat → List Int
  | 0 => []
  | 1 => []
  | 2 => [(one.length : Int)]
  | 3 => [(one.length : Int)]
  | _ => [(one.length : Int), ((one.length + two.length : Nat) : Int), ((one.length + two.length : Nat) : Int)]
def SeqF (n : Nat) (one two : List Int) (i : Nat) (s : BSt) : Prop :=
  ∃ N T q hs, T ≤ 1000 * i ∧ Gb n N T (seqAll one two i) q s hs (seqBx one two i) [] ∧ MarksAre n s.l (fun _ => false) ∧ s.got = seqGot one two i ∧ s.ends = seqEnds one two i
theorem seqF_zero (n : Nat) (one two : List Int) (k : Int) : SeqF n one two 0 ⟨List.replicate (2 + 2 * n) 0, k, [], []⟩ :=
  ⟨0, 0, _, _, Nat.zero_le _, Gb.zero n k, fun x _ _ => by show decide (getA (List.replicate (2 + 2 * n) 0) _ = 1) = false; rw [getA_zero]; decide, rfl, rfl⟩
theorem seqF_next {P : BP} {n cnt most : Nat} {one two : List Int} (hP : P.n = n) (hn : n ≤ 1000) (hc : cnt ≤ 4) (hmost : most ≤ 1000) (h1 : (one ++ two).Nodup) (h2 : ∀ a, a ∈ one ++ two → 0 ≤ a ∧ a < n) (hm1 : 11 * one.length + 6 < most) (hm2 : 11 * two.length + 6 < most ∨ cnt ≤ 2) (hm3 : 10 + 3 * (one.length + two.length) + 5 < most) : Does9 P most cnt (seqP one two) (SeqF n one two) := by
  rintro i s hi ⟨N, T, q, hs, hT, h, hd, hg, he⟩
  have ha := List.nodup_append.1 h1
  rcases (by omega : i = 0 ∨ i = 1 ∨ i = 2 ∨ i = 3) with rfl | rfl | rfl | rfl
  · obtain ⟨q', hs', bx', fs', g1, g2, g3, g4, g5, g6⟩ := h.puts hP ha.1 (fun a hx => h2 a (List.mem_append.2 (.inl hx))) (fun a hx hy => (by cases hy)) hn _ hd most (by omega) (by show 11 * one.length + 7 * 0 + 6 < most; omega)
    refine ⟨fun j hj => ?_, g3, ?_⟩
    · have := (h.moreP ha.1 (fun a hx => h2 a (List.mem_append.2 (.inl hx))) (fun a hx hy => (by cases hy))).w_alone hP hn (Nat.lt_succ_self N) 0 j (by omega)
      rw [updF_same] at this
      exact this
    · rw [putAll_live _ _ _ (fun _ => rfl)] at g2
      injection g2 with e1 e2
      subst e1
      subst e2
      refine ⟨N + 1, T + most, q', hs', by omega, ?_, g6, g4.trans hg, g5.trans he⟩
      show Gb n (N + 1) (T + most) one q' _ hs' one.reverse []
      have e : one.reverse ++ ([] : List Int) = one.reverse := by simp
      rw [← e]
      exact g1
  · obtain ⟨q', hs', bx', g1, g2, g3, g4, g5, g6⟩ := h.drains hP 0 hn _ hd most (by omega) (by show 10 * 0 + 3 * one.reverse.length + 5 < most; simp; omega)
    refine ⟨fun j hj => ?_, g3, ?_⟩
    · have := (h.moreD 1).w_alone hP hn (Nat.lt_succ_self N) 0 j (by omega)
      rw [updF_same] at this
      exact this
    · subst g2
      have hg : s.got = [] := hg
      have he : s.ends = [] := he
      refine ⟨N + 1, T + most, q', hs', by omega, g1, g6, g4.trans ?_, g5.trans ?_⟩
      · rw [hg]; rfl
      · rw [hg, he]
        show [] ++ List.replicate 1 ((([] : List Int) ++ one.reverse).length : Int) = [(one.length : Int)]
        simp
  · have hm2 : 11 * two.length + 6 < most := by omega
    have dj : ∀ a, a ∈ two → a ∉ one := fun a hx hy => ha.2.2 a hy a hx rfl
    obtain ⟨q', hs', bx', fs', g1, g2, g3, g4, g5, g6⟩ := h.puts hP ha.2.1 (fun a hx => h2 a (List.mem_append.2 (.inr hx))) dj hn _ hd most (by omega) (by show 11 * two.length + 7 * 0 + 6 < most; omega)
    refine ⟨fun j hj => ?_, g3, ?_⟩
    · have := (h.moreP ha.2.1 (fun a hx => h2 a (List.mem_append.2 (.inr hx))) dj).w_alone hP hn (Nat.lt_succ_self N) 0 j (by omega)
      rw [updF_same] at this
      exact this
    · rw [putAll_live _ _ _ (fun _ => rfl)] at g2
      injection g2 with e1 e2
      subst e1
      subst e2
      refine ⟨N + 1, T + most, q', hs', by omega, ?_, g6, g4.trans hg, g5.trans he⟩
      show Gb n (N + 1) (T + most) (one ++ two) q' _ hs' two.reverse []
      have e : two.reverse ++ ([] : List Int) = two.reverse := by simp
      rw [← e]
      exact g1
  · obtain ⟨q', hs', bx', g1, g2, g3, g4, g5, g6⟩ := h.drains hP 1 hn _ hd most (by omega) (by show 10 * 1 + 3 * two.reverse.length + 5 < most; simp; omega)
    refine ⟨fun j hj => ?_, g3, ?_⟩
    · have := (h.moreD 2).w_alone hP hn (Nat.lt_succ_self N) 0 j (by omega)
      rw [updF_same] at this
      exact this
    · subst g2
      have hg : s.got = one.reverse := hg
      have he : s.ends = [(one.length : Int)] := he
      refine ⟨N + 1, T + most, q', hs', by omega, g1, g6, g4.trans ?_, g5.trans ?_⟩
      · rw [hg]; rfl
      · rw [hg, he]
        show [(one.length : Int)] ++ List.replicate 2 ((one.reverse ++ two.reverse).length : Int) = [(one.length : Int), ((one.length + two.length : Nat) : Int), ((one.length + two.length : Nat) : Int)]
        simp [List.replicate]

end Go.Proofs.Ythkklcmmbpffiaa

/- The inbox: the document's example. -/
namespace Go.Proofs.Ythkklcmmbpffiaa
open Go.RowKit Go.ChangeShapes Go.WideShapes
set_option maxRecDepth 100000

theorem Gm.Code.func {St Pr : Type} {M : Gm St Pr} {m : Nat} {q : Pr} {v : Value} {w : World} (h : M.Code m q v w) (hq : M.ended q = false) : ∃ g cap, v = .func (.func g) #[] cap := by
  rcases h.shape with ⟨h1, _⟩ | ⟨_, h⟩
  · rw [hq] at h1; cases h1
  · exact h

set_option maxHeartbeats 2000000 in
theorem speaks9_any (w : World) : Calls Try.prog 27 #[] w fun e w' => e = .returned (.bool true) ∧ Below w.heap.size w w' := by
  have hf := fresh9_any 3 (by omega) w
  have hmf := hmf_run
  have y2 := fun (a : Addr) (f : FuncId) (c : Array Value) (w : World) => run_store Try.prog w a (.func (.func f) #[] c) .plain rfl
  go_enter Try.func27, Try.ntmps27
  go_wp2_with fail
  refine (show Calls Try.prog 28 #[.int .i64 3] _ _ from hf).mono ?_
  rintro e w1 ⟨p, c, bn, ba, rfl, ha, hb, hc, hp, hbn, hba, la, ln⟩
  clear hf
  have hb1 := hb.size
  have z1 := ha.head.lt
  obtain ⟨h1, hh⟩ : ∃ h1, w1.heap.size = h1 := ⟨_, rfl⟩
  obtain ⟨W2, hW2⟩ : ∃ W2, (w1.alloc (.cells (bxC p 0 1 46 47 #[] #[ptr ba, ptr bn]) 62)).alloc (.cells #[.slice none 0 0, .slice none 0 0] 72) = W2 := ⟨_, rfl⟩
  have k2 : Turns [] w1 W2 := by rw [← hW2]; exact ((Turns.refl _ _).alloc _).alloc _
  have lb : Lies W2 h1 62 (bxC p 0 1 46 47 #[] #[ptr ba, ptr bn]) := by rw [← hW2, ← hh]; exact (Lies.new _ _ _).alloc _
  have lo : Lies W2 (h1 + 1) 72 #[.slice none 0 0, .slice none 0 0] := by rw [← hW2]; exact Lies.new_of _ _ (by simp [hh])
  have z2 : W2.heap.size = h1 + 1 + 1 := by rw [← hW2]; simp [hh]
  obtain ⟨hG, hI, hX, hR0⟩ := begin9 (W := W2) (B := w.heap.size) (r := 80) (ex := []) (ha.turn k2 (by simp) (by simp)) (by omega) (bok_zero 3) lo lb (la.turn k2 (by simp)) (ln.turn k2 (by simp)) (by omega) hc (by omega) (by omega) (by omega) (by simp) (by simp)
  have hg := seqF_zero 3 [1, 2] [] 0
  obtain ⟨P, hP⟩ : ∃ P, (⟨p, c, w.heap.size, 3, h1 + 1, []⟩ : BP) = P := ⟨_, rfl⟩
  have gp : P.n = 3 ∧ P.B = w.heap.size ∧ P.ob = h1 + 1 ∧ P.p = p ∧ P.ex = [] := by rw [← hP]; exact ⟨rfl, rfl, rfl, rfl, rfl⟩
  rw [hP] at hG hI hX hR0
  obtain ⟨s0, hs0⟩ : ∃ s0, (⟨List.replicate (2 + 2 * 3) 0, 0, [], []⟩ : BSt) = s0 := ⟨_, rfl⟩
  have hI : BI P 80 s0 W2 := by rw [← hs0]; exact hI
  rw [hs0] at hg
  have hM := bm_ok P hG
  have b2 : Below w.heap.size w W2 := hb.trans (k2.below (by simp) hb1)
  have hPut : ∀ W, Turns [] W2 W → Lies W (h1 + 1 + 1) 3 #[.int .i64 1, .int .i64 2] → (BM P).Makes 80 (startP [1, 2]) 30 #[bxP P #[ptr ba, ptr bn], .slice (some ⟨h1 + 1 + 1, 0, none⟩) 2 2, .nilFunc] W := fun W t l => by
    have hi := hI.turns t (by simp)
    have hx := hX.turns hG hI t (by simp) (by simp)
    refine puts_g hG (ba := ba) (bn := bn) 80 [1, 2] (by rw [gp.1]; decide) (some ⟨h1 + 1 + 1, 0, none⟩) 2 W 80 s0 (Nat.le_refl _) hi ⟨by decide, fun _ => ⟨_, rfl, l.lt, fun hm => (List.mem_append.1 hm).elim (hi.apart_int l) (by rw [gp.2.2.2.2]; simp), fun q => hR0 _ (BI.rows_turns hG hI t (by simp) q), fun q => q.ne l (by decide), fun i h => ?_⟩⟩ hx.xa hx.xn
    rw [add_head4, l.cell i]
    have h : i < 2 := h
    rcases (by omega : i = 0 ∨ i = 1) with rfl | rfl <;> rfl
  have hDr : ∀ W, Turns [] W2 W → (BM P).Makes 80 (startD 1) 31 #[bxP P #[ptr ba, ptr bn], .int .i64 1, ptr (h1 + 1)] W := fun W t => by
    have := drains_g P hG (dcap := #[ptr ba, ptr bn]) 80 1 (by omega) W (hM.okw _ _ _ (hI.turns t (by simp)))
    rw [gp.2.2.1] at this
    exact this
  have hA : bxP P #[ptr ba, ptr bn] = bxV p 0 1 46 47 #[] #[ptr ba, ptr bn] := by rw [← gp.2.2.2.1]
  rw [hA] at hPut hDr
  obtain ⟨c0, c1, c2, c3, c4, c5, c6⟩ := hX.cells
  rw [gp.2.2.2.1] at c0 c4
  have g0 := hX.box.lt
  have HI := Lib.hid hI
  have HX := Lib.hid (And.intro hX gp)
  have HG := Lib.hid hg
  clear hI hX hR0 hg k2 lb lo ha la ln hP hs0 hA hb hM gp
  unfold Gm.Makes at hPut hDr
  go_upto_region 5 with (fail)
  try rw [hh]
  try rw [hW2]
  clear hW2
  have kA := And.intro ((((Turns.refl [] W2).drew.alloc (.cells #[.int .i64 1, .int .i64 2] 3)).cell (p := ⟨h1, 0, none⟩) g0 (by simp)).trans c0) (And.intro ((((Turns.refl [] W2).drew.alloc (.cells #[.int .i64 1, .int .i64 2] 3)).cell (p := ⟨h1, 1, none⟩) g0 (by simp)).trans c1) (And.intro ((((Turns.refl [] W2).drew.alloc (.cells #[.int .i64 1, .int .i64 2] 3)).cell (p := ⟨h1, 2, none⟩) g0 (by simp)).trans c2) (And.intro ((((Turns.refl [] W2).drew.alloc (.cells #[.int .i64 1, .int .i64 2] 3)).cell (p := ⟨h1, 3, none⟩) g0 (by simp)).trans c3) (And.intro ((((Turns.refl [] W2).drew.alloc (.cells #[.int .i64 1, .int .i64 2] 3)).cell (p := ⟨h1, 4, none⟩) g0 (by simp)).trans c4) (And.intro ((((Turns.refl [] W2).drew.alloc (.cells #[.int .i64 1, .int .i64 2] 3)).cell (p := ⟨h1, 5, none⟩) g0 (by simp)).trans c5) ((((Turns.refl [] W2).drew.alloc (.cells #[.int .i64 1, .int .i64 2] 3)).cell (p := ⟨h1, 6, none⟩) g0 (by simp)).trans c6))))))
  go_region_held3 (fun W' => W'.cell? ⟨h1, 0, none⟩ = some (ptr p) ∧ W'.cell? ⟨h1, 1, none⟩ = some (.int .i64 0) ∧ W'.cell? ⟨h1, 2, none⟩ = some (.func (.func 46) #[] #[]) ∧ W'.cell? ⟨h1, 3, none⟩ = some (.func (.func 47) #[] #[ptr ba, ptr bn]) ∧ W'.cell? ⟨h1, 4, none⟩ = some (ptr p) ∧ W'.cell? ⟨h1, 5, none⟩ = some (.int .i64 1) ∧ W'.cell? ⟨h1, 6, none⟩ = some (.func (.func 46) #[] #[]))
    (first | exact ⟨c0, c1, c2, c3, c4, c5, c6⟩ | exact kB | exact kA | exact kC | exact kE)
    (first
      | (refine (hDr _ t3).mono ?_
         rintro e w4 ⟨v4, rfl, hc4, t4⟩
         obtain ⟨f4, cap4, rfl⟩ := hc4.func rfl
         have t5 := t3.trans t4
         have kE := And.intro (((t5.alloc (.cells #[.func (.func f3) #[] cap3, .func (.func f4) #[] cap4] 38)).cell (p := ⟨h1, 0, none⟩) g0 (by simp)).trans c0) (And.intro (((t5.alloc (.cells #[.func (.func f3) #[] cap3, .func (.func f4) #[] cap4] 38)).cell (p := ⟨h1, 1, none⟩) g0 (by simp)).trans c1) (And.intro (((t5.alloc (.cells #[.func (.func f3) #[] cap3, .func (.func f4) #[] cap4] 38)).cell (p := ⟨h1, 2, none⟩) g0 (by simp)).trans c2) (And.intro (((t5.alloc (.cells #[.func (.func f3) #[] cap3, .func (.func f4) #[] cap4] 38)).cell (p := ⟨h1, 3, none⟩) g0 (by simp)).trans c3) (And.intro (((t5.alloc (.cells #[.func (.func f3) #[] cap3, .func (.func f4) #[] cap4] 38)).cell (p := ⟨h1, 4, none⟩) g0 (by simp)).trans c4) (And.intro (((t5.alloc (.cells #[.func (.func f3) #[] cap3, .func (.func f4) #[] cap4] 38)).cell (p := ⟨h1, 5, none⟩) g0 (by simp)).trans c5) (((t5.alloc (.cells #[.func (.func f3) #[] cap3, .func (.func f4) #[] cap4] 38)).cell (p := ⟨h1, 6, none⟩) g0 (by simp)).trans c6))))))
         have kC := And.intro ((t5.cell (p := ⟨h1, 0, none⟩) g0 (by simp)).trans c0) (And.intro ((t5.cell (p := ⟨h1, 1, none⟩) g0 (by simp)).trans c1) (And.intro ((t5.cell (p := ⟨h1, 2, none⟩) g0 (by simp)).trans c2) (And.intro ((t5.cell (p := ⟨h1, 3, none⟩) g0 (by simp)).trans c3) (And.intro ((t5.cell (p := ⟨h1, 4, none⟩) g0 (by simp)).trans c4) (And.intro ((t5.cell (p := ⟨h1, 5, none⟩) g0 (by simp)).trans c5) ((t5.cell (p := ⟨h1, 6, none⟩) g0 (by simp)).trans c6)))))))
      | (refine (hPut _ ((Turns.refl [] W2).drew.alloc _) (Lies.new_of _ _ (by simp [z2]))).mono ?_
         rintro e w3 ⟨v3, rfl, hc3, t3⟩
         obtain ⟨f3, cap3, rfl⟩ := hc3.func rfl
         have t3 := ((Turns.refl [] W2).drew.alloc _).trans t3
         have kB := And.intro ((t3.cell (p := ⟨h1, 0, none⟩) g0 (by simp)).trans c0) (And.intro ((t3.cell (p := ⟨h1, 1, none⟩) g0 (by simp)).trans c1) (And.intro ((t3.cell (p := ⟨h1, 2, none⟩) g0 (by simp)).trans c2) (And.intro ((t3.cell (p := ⟨h1, 3, none⟩) g0 (by simp)).trans c3) (And.intro ((t3.cell (p := ⟨h1, 4, none⟩) g0 (by simp)).trans c4) (And.intro ((t3.cell (p := ⟨h1, 5, none⟩) g0 (by simp)).trans c5) ((t3.cell (p := ⟨h1, 6, none⟩) g0 (by simp)).trans c6)))))))
      )
  all_goals
    clear kA kB kC kE hPut hDr c0 c1 c2 c3 c4 c5 c6 g0 y2 hmf
    have hM := bm_ok P hG
    obtain ⟨hX, gp⟩ := HX.out
    have k6 : Turns [] w4 (w4.alloc (.cells #[.func (.func f3) #[] cap3, .func (.func f4) #[] cap4] 38)) := (Turns.refl _ _).alloc _
    have l6 : Lies (w4.alloc (.cells #[.func (.func f3) #[] cap3, .func (.func f4) #[] cap4] 38)) w4.heap.size 38 #[.func (.func f3) #[] cap3, .func (.func f4) #[] cap4] := Lies.new _ _ _
    obtain ⟨W6, hW6⟩ : ∃ W6, w4.alloc (.cells #[.func (.func f3) #[] cap3, .func (.func f4) #[] cap4] 38) = W6 := ⟨_, rfl⟩
    rw [hW6] at k6 l6
    try rw [hW6]
    have t26 := t5.trans k6
    have hI4 := HI.out.turns t5 (by simp)
    have hI3 := HI.out.turns t3 (by simp)
    have m46 := (hM.okw _ _ _ hI4).mv hM k6
    have m36 := ((hM.okw _ _ _ hI3).mv hM t4).trans m46
    obtain ⟨cv, hcv⟩ : ∃ cv : Nat → Value, (fun k => match k with | 0 => .func (.func f3) #[] cap3 | _ => .func (.func f4) #[] cap4) = cv := ⟨_, rfl⟩
    have seq : Seq9 w P h1 ba bn w.heap.size w4.heap.size 40 2 (seqP [1, 2] []) cv (SeqF 3 [1, 2] []) 0 W6 := by
      refine ⟨⟨s0, HI.out.turns t26 (by simp), HG.out⟩, fun k _ hk => ?_, ⟨_, l6, fun k hk => ?_⟩, hX.turns hG HI.out t26 (by simp) (by simp), b2.trans (t26.below (by simp) (by omega))⟩
      · rw [← hcv]
        rcases (by omega : k = 0 ∨ k = 1) with rfl | rfl
        · exact hc3.mv m36
        · exact hc4.mv m46
      · rw [← hcv]
        rcases (by omega : k = 0 ∨ k = 1) with rfl | rfl <;> rfl
    have hD : Does9 P 40 2 (seqP [1, 2] []) (SeqF 3 [1, 2] []) := seqF_next gp.1 (by omega) (by omega) (by omega) (by decide) (by decide) (by decide) (.inr (by omega)) (by decide)
    have HO := Lib.hid gp
    clear hcv hc3 hc4 m36 m46 hI3 hI4 t26 t5 t4 t3 k6 l6 hX gp HX hW6 HI HG hM b2
    obtain ⟨g, hg⟩ : ∃ g, w4.heap.size = g := ⟨_, rfl⟩
    rw [hg] at seq
    try rw [hg]
    clear hg
    have HD := Lib.hid hD
    clear hD
    go_wp2_with fail
    go_loopw [5, 6, 23] (fun _ _ i W => ∃ j : Nat, i = .int .i64 (j : Int) ∧ j ≤ 2 ∧ Seq9 w P h1 ba bn w.heap.size g 40 2 (seqP [1, 2] []) cv (SeqF 3 [1, 2] []) j W) (fun _ _ i _ => 2 - (intOf i).toNat)
    case atStart => exact ⟨0, rfl, by omega, seq⟩
    case round =>
      clear seq
      obtain ⟨j, rfl, hj, seq⟩ := hrel
      generalize wr = W at *
      by_cases hj2 : j < 2
      · obtain ⟨hcell, hcode⟩ := seq.cell hj2
        have hn := newtask_any (cv j) hcode W
        have hfin := seq.next hG HD.out (by rw [HO.out.2.1]; exact Nat.le_refl _) hj2 (by omega)
        clear seq
        generalize cv j = v at *
        rcases hcode with rfl | ⟨fv, capv, rfl⟩
        all_goals
          go_wp2_with fail
          refine hn.mono ?_
          rintro e W1 ⟨rfl, hw1⟩
          rw [hw1] at hfin
          clear hw1
          go_wp2_with fail
          refine (show Calls Try.prog 18 #[ptr W.heap.size, .int .i64 40] _ _ from hfin).mono ?_
          rintro e W2' ⟨rfl, hs⟩
          go_wp2
          go_roundw
          case rel => exact ⟨j + 1, by go_num, by omega, hs⟩
          case measure => simp [intOf]; omega
      · obtain rfl : j = 2 := by omega
        obtain ⟨s, hs, _, _, _, _, _, _, _, hgot, _⟩ := seq.si
        have be := seq.be
        obtain ⟨v, u, hl, hv, _, _⟩ := hs.ow
        have hgot : s.got = [2, 1] := hgot
        rw [hgot] at hv
        have hob : P.ob = h1 + 1 := HO.out.2.2.1
        rw [hob] at hl
        have hrx : IRow W P.B v [2, 1] := ⟨hv, by intro y hy; simp at hy; rcases hy with rfl | rfl <;> decide⟩
        obtain ⟨A, cx, rfl, hrw⟩ := hrx.row
        have c9 : W.cell? ⟨h1 + 1, 0, none⟩ = some (.slice A 2 cx) := hl.cell 0
        have hlit := IRow.lit W (B := w.heap.size) [2, 1] #[.int .i64 2, .int .i64 1] rfl be.size hrx.ints (by simp)
        obtain ⟨A', c', e', hrw'⟩ := hlit.row
        have bz : Below W.heap.size W (W.alloc (.cells #[.int .i64 2, .int .i64 1] 3)) := (Below.refl _ _).alloc (Nat.le_refl _) _
        have hsm := rsame_any A A' 2 cx c' [2, 1] _ (hrw.keep (Nat.le_refl _) bz) hrw'
        injection e' with ea eb ec
        subst ea
        subst ec
        clear eb
        have b10 := be.trans (bz.mono be.size)
        have hz := b10.size
        clear seq hs hl hv hrx hlit hrw hrw' bz
        go_wp2_with fail
        refine hsm.mono ?_
        rintro e w10 ⟨rfl, hz10⟩
        go_wp2
        go_ret
        exact ⟨rfl, b10.trans (hz10.mono hz)⟩

end Go.Proofs.Ythkklcmmbpffiaa

/- The inbox: what it tells of its tickets, and of the free ones. -/
namespace Go.Proofs.Ythkklcmmbpffiaa
open Go.RowKit Go.ChangeShapes Go.WideShapes
set_option maxRecDepth 100000

section
variable {P : BP} {r : Nat} {s : BSt} {W : World}
theorem BOk.dom {n : Nat} {l : List Int} (h : BOk n l) (hf : ∀ i, N64 (getA l i)) {k : Int} (hk : k = 0 ∨ k = 1) : (hIx (getA l k) = -1 ∨ (0 ≤ hIx (getA l k) ∧ hIx (getA l k) < n)) ∧ ∀ i : Int, 0 ≤ i ∧ i < n → lkd (getA l (i + 2)) = -1 ∨ (0 ≤ lkd (getA l (i + 2)) ∧ lkd (getA l (i + 2)) < n) := by
  refine ⟨?_, fun i hi => ?_⟩
  · have h1 := hIx_in (v := getA l k)
    have h2 : hIx (getA l k) < n := by
      rcases hk with rfl | rfl
      · exact h.h0.2
      · exact h.h1.2
    unfold Ix0 at h1
    omega
  · obtain ⟨j, rfl⟩ := Int.eq_ofNat_of_zero_le hi.1
    have h1 := h.link j (by omega)
    have h2 := hf ((j : Int) + 2)
    unfold N64 at h2
    unfold lkd
    split <;> omega
theorem BI.told (_ : P.Good) (h : BI P r s W) {k : Int} (hk : k = 0 ∨ k = 1) (hn : P.n ≤ 1000) : Calls Try.prog 44 #[chV P.p k 46 #[]] W fun e w' => ∃ v, e = .returned v ∧ IRow w' W.heap.size v (chL s.l (fun i => i + 2) s.l.length (hIx (getA s.l k))) ∧ Below W.heap.size W w' := by
  obtain ⟨d1, d2⟩ := h.ok.dom (fun i => h.ar.fitA i) hk
  exact chlist_any P.p P.c k 46 #[] (fun i => i + 2) s.l s.k W h.ar ent_link9 (by have := h.ok.len; omega) (fun i => 0 ≤ i ∧ i < P.n) (fun i hi => by omega) d1 d2 (fun W i hi => (link9_any i (by unfold Ix; omega) W).mono fun e w2 h => ⟨h.1, by rw [h.2]; exact Turns.refl _ _⟩)
theorem BI.free (_ : P.Good) (h : BI P r s W) (hn : P.n ≤ 1000) : Calls Try.prog 20 #[chV P.p 1 46 #[]] W fun e w' => ∃ v, e = .returned v ∧ IRow w' W.heap.size v (chL s.l (fun i => i + 2) s.l.length (hIx (getA s.l 1))) ∧ Below W.heap.size W w' := by
  obtain ⟨d1, d2⟩ := h.ok.dom (fun i => h.ar.fitA i) (.inr rfl)
  exact stlist_any P.p P.c 1 46 #[] (fun i => i + 2) s.l s.k W h.ar ent_link9 (by have := h.ok.len; omega) (fun i => 0 ≤ i ∧ i < P.n) (fun i hi => by omega) d1 d2 (fun W i hi => (link9_any i (by unfold Ix; omega) W).mono fun e w2 h => ⟨h.1, by rw [h.2]; exact Turns.refl _ _⟩)
theorem BI.lists {dcap : Array Value} (hG : P.Good) (h : BI P r s W) (hn : P.n ≤ 1000) : Calls Try.prog 33 #[bxP P dcap] W fun e w' => ∃ v, e = .returned v ∧ IRow w' W.heap.size v (chL s.l (fun i => i + 2) s.l.length (hIx (getA s.l 0))) ∧ Below W.heap.size W w' := by
  have hch := fun W => chainb_g P.p 0 1 46 47 #[] dcap W
  obtain ⟨W1, hW1⟩ : ∃ W1, W.alloc (.cells (bxC P.p 0 1 46 47 #[] dcap) 62) = W1 := ⟨_, rfl⟩
  have k1 : Turns [] W W1 := by rw [← hW1]; exact (Turns.refl _ _).alloc _
  have hl : ∀ W2, Turns [] W W2 → _ := fun W2 t => BI.told hG (h.turns t (by simp)) (.inl rfl) hn
  have l1 : Lies W1 W.heap.size 62 (bxC P.p 0 1 46 47 #[] dcap) := by rw [← hW1]; exact Lies.new _ _ _
  have fin : ∀ W2 W3 v xs, Turns [] W W2 → IRow W3 W2.heap.size v xs → Below W2.heap.size W2 W3 → IRow W3 W.heap.size v xs ∧ Below W.heap.size W W3 := fun W2 W3 v xs t h1 h2 => ⟨h1.less t.size, (t.below (by simp) (Nat.le_refl _)).trans (h2.mono t.size)⟩
  obtain ⟨c0, c1, c2, c3, c4, c5, c6⟩ : W1.cell? ⟨W.heap.size, 0, none⟩ = some (ptr P.p) ∧ W1.cell? ⟨W.heap.size, 1, none⟩ = some (.int .i64 0) ∧ W1.cell? ⟨W.heap.size, 2, none⟩ = some (.func (.func 46) #[] #[]) ∧ W1.cell? ⟨W.heap.size, 3, none⟩ = some (.func (.func 47) #[] dcap) ∧ W1.cell? ⟨W.heap.size, 4, none⟩ = some (ptr P.p) ∧ W1.cell? ⟨W.heap.size, 5, none⟩ = some (.int .i64 1) ∧ W1.cell? ⟨W.heap.size, 6, none⟩ = some (.func (.func 46) #[] #[]) := ⟨l1.cell 0, l1.cell 1, l1.cell 2, l1.cell 3, l1.cell 4, l1.cell 5, l1.cell 6⟩
  clear l1 h
  go_enter Try.func33, Try.ntmps33
  go_upto_region 1 with (fail)
  try rw [hW1]
  clear hW1
  go_wp2_with fail
  refine (hch _).mono ?_
  rintro e w3 ⟨rfl, t3⟩
  have hl := hl _ (k1.trans t3)
  go_wp2_with fail
  refine hl.mono ?_
  rintro e w4 ⟨v, rfl, h1, h2⟩
  go_wp2
  go_ret
  exact ⟨v, rfl, fin _ _ _ _ (k1.trans t3) h1 h2⟩
end

end Go.Proofs.Ythkklcmmbpffiaa
