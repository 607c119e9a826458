/- The document's steps. -/
import Derived.Test.YtbkopghghoolmaaC16a
import Derived.Test.YtbkopghghoolmaaQ13
namespace Go.Proofs.Ytbkopghghoolmaa
open Go.RowKit
variable {Xo : Nat}

/-- a task of the document's, as a value. -/
abbrev rtask (A : Option Addr) (nn cp : Nat) (d : Nat) (sm : Int) : Value := .agg #[.slice A nn cp, .int .i64 d, .int .u64 sm]

theorem rended_any (A : Option Addr) (nn cp d : Nat) (sm : Int) (w : World) (b : Bool) (hb : decide (nn ≤ d) = b) :
    Calls Try.prog 14 #[rtask A nn cp d sm] w fun e w' => e = .returned (.bool b) ∧ Below w.heap.size w w' := by
  go_enter Try.func14, Try.ntmps14
  go_wp2
  go_ret
  exact ⟨ret_bool (by rw [← hb]), (Below.refl _ _).alloc (Nat.le_refl _) _⟩

/-- what an act of the kinds 0 to 3 comes to. -/
def newK (kd : Int) (l : List Int) (i o v : Int) : List Int := if kd = 0 then l else if kd = 1 then setA l i v else if kd = 2 then setA l i v else casA l i o v
def ansK (kd : Int) (l : List Int) (i : Int) : Int := if kd = 0 then getA l i else if kd = 1 then 0 else if kd = 2 then getA l i else 0
def okK (kd : Int) (l : List Int) (i o : Int) : Bool := if kd = 0 then false else if kd = 1 then hasA l i else if kd = 2 then false else casB l i o

theorem rdoK {g n cp : Nat} {k : Int} {l : List Int} {w : World} (kd i o v : Int) (hr : 0 ≤ kd ∧ kd ≤ 3) (h : Held Xo w g l) (hn : l.length = n) (hm : n ≤ 1048576) (hk0 : 0 ≤ k) (hk : k < 9223372036854775807) (hf : ∀ x, x ∈ l → N64 x) :
    Calls Try.prog 44 #[.agg #[.slice (some ⟨g, 0, none⟩) n cp, .int .i64 k], .int .i64 kd, .int .i64 i, .int .u64 o, .int .u64 v] w (RDone Xo w n (newK kd l i o v) (moreA l i k) (ansK kd l i) (okK kd l i o)) := by
  rcases (by omega : kd = 0 ∨ kd = 1 ∨ kd = 2 ∨ kd = 3) with rfl | rfl | rfl | rfl
  · exact rdo0 i o v h hn hk0 hk
  · exact rdo1 i o v h hn hm hk0 hk hf
  · exact rdo2 i o v h hn hm hk0 hk hf
  · exact rdo3 i o v h hn hm hk0 hk hf

/-- the sum behind an act. -/
def sumK (kd : Int) (l : List Int) (i o : Int) (y : Int) : Int := if okK kd l i o = true ∧ kd = 3 then IntKind.u64.wrap (tell y (ansK kd l i) + 1) else tell y (ansK kd l i)
theorem act1_K {s : ASt} {j : Nat} {x : Act4} (h : 0 ≤ x.kd ∧ x.kd ≤ 3) : (act1 s j x).l = newK x.kd s.l x.ix x.od x.vl ∧ (act1 s j x).k = moreA s.l x.ix s.k ∧ (act1 s j x).x = updF s.x j (sumK x.kd s.l x.ix x.od (s.x j)) := by
  have e1 : ∀ y, IntKind.u64.wrap (tell y 0 + 1) = tell y 1 := fun y => by
    unfold tell
    rw [IntKind.wrap_u64, IntKind.wrap_u64, IntKind.wrap_u64, IntKind.wrap_u64]
    omega
  rcases (by omega : x.kd = 0 ∨ x.kd = 1 ∨ x.kd = 2 ∨ x.kd = 3) with h | h | h | h
  · simp [act1, newK, sumK, okK, ansK, h]
  · simp [act1, newK, sumK, okK, ansK, h]
  · simp [act1, newK, sumK, okK, ansK, h]
  · cases hc : casB s.l x.ix x.od <;> simp [act1, newK, sumK, okK, ansK, h, hc, e1]
theorem act1_no {s : ASt} {j : Nat} {x : Act4} (h : x.kd < 0 ∨ 3 < x.kd) : act1 s j x = s := by
  unfold act1
  rw [if_neg (by omega), if_neg (by omega), if_neg (by omega), if_neg (by omega)]

/-- behind the document's Step: the arena's value and numbers, the task's. -/
def RStep (Xo : Nat) (w : World) (n : Nat) (a : Addr) (nn cp d : Nat) (l' : List Int) (k' sm' : Int) (e : Ending) (w' : World) : Prop :=
  ∃ g cap, e = .returned (.tuple #[.agg #[.slice (some ⟨g, 0, none⟩) n cap, .int .i64 k'], rtask (some a) nn cp (d + 1) sm']) ∧ Held Xo w' g l' ∧ Below w.heap.size w w'

/-- in the midst of Step. -/
structure SMid (Xo : Nat) (w : World) (S g n cap : Nat) (k : Int) (l : List Int) (a : Addr) (nn cp : Nat) (d : Int) (sm : Int) (W : World) : Prop where
  ar : Lies W S 32 #[.slice (some ⟨g, 0, none⟩) n cap, .int .i64 k]
  tk : Lies W (S + 1) 46 #[.slice (some a) nn cp, .int .i64 d, .int .u64 sm]
  ra : Lies W (S + 2) 32 #[.slice none 0 0, .int .i64 0]
  rt : Lies W (S + 3) 46 #[.slice none 0 0, .int .i64 0, .int .u64 0]
  h : Held Xo W g l
  be : Below S w W
  old : g < S
  at_ : w.heap.size = S
theorem SMid.below {w : World} {S g n cap : Nat} {k : Int} {l : List Int} {a : Addr} {nn cp : Nat} {d : Int} {sm : Int} {W W' : World} (m : SMid Xo w S g n cap k l a nn cp d sm W) (hb : Below W.heap.size W W') : SMid Xo w S g n cap k l a nn cp d sm W' := by
  have h3 := m.rt.lt
  exact ⟨m.ar.below hb (by omega), m.tk.below hb (by omega), m.ra.below hb (by omega), m.rt.below hb h3, m.h.keep hb (by have := m.old; omega), m.be.trans (hb.mono (by omega)), m.old, m.at_⟩
theorem SMid.put {w : World} {S g n cap : Nat} {k : Int} {l : List Int} {a : Addr} {nn cp : Nat} {d : Int} {sm : Int} {W : World} (m : SMid Xo w S g n cap k l a nn cp d sm W) (d' : Int) : SMid Xo w S g n cap k l a nn cp d' sm (W.setCell ⟨S + 1, 1, none⟩ (.int .i64 d')) := by
  have hold := m.old
  refine ⟨m.ar.far (p := ⟨S + 1, 1, none⟩) (by simp) _, ?_, m.ra.far (p := ⟨S + 1, 1, none⟩) (by simp) _, m.rt.far (p := ⟨S + 1, 1, none⟩) (by simp) _, m.h.far (p := ⟨S + 1, 1, none⟩) (by simp; omega) _, m.be.setCell (p := ⟨S + 1, 1, none⟩) (by simp) _, m.old, m.at_⟩
  have := m.tk.set 1 (.int .i64 d')
  simpa using this
theorem SMid.sum {w : World} {S g n cap : Nat} {k : Int} {l : List Int} {a : Addr} {nn cp : Nat} {d : Int} {sm : Int} {W : World} (m : SMid Xo w S g n cap k l a nn cp d sm W) (sm' : Int) : SMid Xo w S g n cap k l a nn cp d sm' (W.setCell ⟨S + 1, 2, none⟩ (.int .u64 sm')) := by
  have hold := m.old
  refine ⟨m.ar.far (p := ⟨S + 1, 2, none⟩) (by simp) _, ?_, m.ra.far (p := ⟨S + 1, 2, none⟩) (by simp) _, m.rt.far (p := ⟨S + 1, 2, none⟩) (by simp) _, m.h.far (p := ⟨S + 1, 2, none⟩) (by simp; omega) _, m.be.setCell (p := ⟨S + 1, 2, none⟩) (by simp) _, m.old, m.at_⟩
  have := m.tk.set 2 (.int .u64 sm')
  simpa using this
theorem smid (w : World) (g n cap : Nat) (k : Int) (l : List Int) (a : Addr) (nn cp : Nat) (d : Int) (sm : Int) (h : Held Xo w g l) :
    SMid Xo w w.heap.size g n cap k l a nn cp d sm ((((w.alloc (.cells #[.slice (some ⟨g, 0, none⟩) n cap, .int .i64 k] 32)).alloc (.cells #[.slice (some a) nn cp, .int .i64 d, .int .u64 sm] 46)).alloc (.cells #[.slice none 0 0, .int .i64 0] 32)).alloc (.cells #[.slice none 0 0, .int .i64 0, .int .u64 0] 46)) := by
  refine ⟨(((Lies.new _ _ _).alloc _).alloc _).alloc _, ((Lies.new_at _ _ (by simp)).alloc _).alloc _, (Lies.new_at _ _ (by simp)).alloc _, Lies.new_at _ _ (by simp), ?_, ?_, h.lt, rfl⟩
  · exact h.turn (L := []) (((((Turns.refl _ _).alloc _).alloc _).alloc _).alloc _) (by simp)
  · exact ((((Below.refl _ _).alloc (Nat.le_refl _) _).alloc (by simp) _).alloc (by simp; omega) _).alloc (by simp; omega) _

/-- at Step's end. -/
structure SEnd (Xo : Nat) (w : World) (S g n cap : Nat) (k : Int) (l : List Int) (a : Addr) (nn cp : Nat) (d : Int) (sm : Int) (V : World) : Prop where
  ra : Lies V (S + 2) 32 #[.slice (some ⟨g, 0, none⟩) n cap, .int .i64 k]
  rt : Lies V (S + 3) 46 #[.slice (some a) nn cp, .int .i64 d, .int .u64 sm]
  h : Held Xo V g l
  be : Below S w V
theorem send {w : World} {S g n cap : Nat} {k : Int} {l : List Int} {a : Addr} {nn cp : Nat} {d : Int} {sm : Int} {W : World} (m : SMid Xo w S g n cap k l a nn cp d sm W) (g' cap' : Nat) (k' : Int) (l' : List Int) (hh : Held Xo W g' l') (h1 : g' ≠ S + 2) (h2 : g' ≠ S + 3) (d' sm' : Int) :
    SEnd Xo w S g' n cap' k' l' a nn cp d' sm' (((((W.setCell ⟨S + 1 + 1, 0, none⟩ (.slice (some ⟨g', 0, none⟩) n cap')).setCell ⟨S + 1 + 1, 1, none⟩ (.int .i64 k')).setCell ⟨S + 1 + 1 + 1, 0, none⟩ (.slice (some a) nn cp)).setCell ⟨S + 1 + 1 + 1, 1, none⟩ (.int .i64 d')).setCell ⟨S + 1 + 1 + 1, 2, none⟩ (.int .u64 sm')).drew := by
  refine ⟨?_, ?_, ?_, ?_⟩
  · have := (((((m.ra.set 0 (.slice (some ⟨g', 0, none⟩) n cap')).set 1 (.int .i64 k')).far (p := ⟨S + 1 + 1 + 1, 0, none⟩) (by simp) (.slice (some a) nn cp)).far (p := ⟨S + 1 + 1 + 1, 1, none⟩) (by simp) (.int .i64 d')).far (p := ⟨S + 1 + 1 + 1, 2, none⟩) (by simp) (.int .u64 sm')).drew
    simpa using this
  · have := (((((m.rt.far (p := ⟨S + 1 + 1, 0, none⟩) (by simp) (.slice (some ⟨g', 0, none⟩) n cap')).far (p := ⟨S + 1 + 1, 1, none⟩) (by simp) (.int .i64 k')).set 0 (.slice (some a) nn cp)).set 1 (.int .i64 d')).set 2 (.int .u64 sm')).drew
    simpa using this
  · have := ((((hh.far (p := ⟨S + 1 + 1, 0, none⟩) h1 (.slice (some ⟨g', 0, none⟩) n cap')).far (p := ⟨S + 1 + 1, 1, none⟩) h1 (.int .i64 k')).far (p := ⟨S + 1 + 1 + 1, 0, none⟩) h2 (.slice (some a) nn cp)).far (p := ⟨S + 1 + 1 + 1, 1, none⟩) h2 (.int .i64 d')).far (p := ⟨S + 1 + 1 + 1, 2, none⟩) h2 (.int .u64 sm')
    exact this.turn (L := []) ((Turns.refl _ _).drew) (by simp)
  · exact (((((m.be.setCell (p := ⟨S + 1 + 1, 0, none⟩) (by simp; omega) _).setCell (p := ⟨S + 1 + 1, 1, none⟩) (by simp; omega) _).setCell (p := ⟨S + 1 + 1 + 1, 0, none⟩) (by simp; omega) _).setCell (p := ⟨S + 1 + 1 + 1, 1, none⟩) (by simp; omega) _).setCell (p := ⟨S + 1 + 1 + 1, 2, none⟩) (by simp; omega) _).drew

set_option maxHeartbeats 2000000 in
theorem rstep_any (g n cap : Nat) (k : Int) (l : List Int) (a : Addr) (nn cp d : Nat) (sm : Int) (x : Act4) (w : World) (h : Held Xo w g l) (hn : l.length = n) (hm : n ≤ 1048576) (hk0 : 0 ≤ k) (hk : k < 9223372036854775807) (hf : ∀ x, x ∈ l → N64 x)
    (ha : a.block < w.heap.size) (hx : ActAt w (a.add (d * 4)) x) (hd : d < nn) (hnn : nn ≤ 30) :
    Calls Try.prog 31 #[.agg #[.slice (some ⟨g, 0, none⟩) n cap, .int .i64 k], rtask (some a) nn cp d sm] w (RStep Xo w n a nn cp d (act1 ⟨l, k, fun _ => sm⟩ 0 x).l (act1 ⟨l, k, fun _ => sm⟩ 0 x).k ((act1 ⟨l, k, fun _ => sm⟩ 0 x).x 0)) := by
  have hM := smid w g n cap k l a nn cp d sm h
  go_enter Try.func31, Try.ntmps31
  go_wp2_with fail
  refine (rended_any _ _ _ _ _ _ false (by simp; omega)).mono ?_
  rintro e w1 ⟨rfl, hb1⟩
  have hM1 := hM.below hb1
  have hxx : ActAt w1 (a.add (d * 4)) x := by
    have hb := hM1.be
    rw [← hM1.at_] at hb
    have q : (a.add (d * 4)).block < w.heap.size := by rw [add_block]; exact ha
    exact ⟨(hb.cell (p := a.add (d * 4)) q).trans hx.c0, (hb.cell (p := ⟨(a.add (d * 4)).block, (a.add (d * 4)).off + 1, none⟩) q).trans hx.c1, (hb.cell (p := ⟨(a.add (d * 4)).block, (a.add (d * 4)).off + 2, none⟩) q).trans hx.c2, (hb.cell (p := ⟨(a.add (d * 4)).block, (a.add (d * 4)).off + 3, none⟩) q).trans hx.c3, hx.k0, hx.c0', hx.o0, hx.v0⟩
  clear hM hb1 hx h
  generalize w.heap.size = S at *
  have q0 := hM1.ar.cell 0
  have q1 := hM1.ar.cell 1
  have t0 := hM1.tk.cell 0
  have t1 := hM1.tk.cell 1
  have t2 := hM1.tk.cell 2
  have f1 := hM1.tk.frozen 1
  simp at q0 q1 t0 t1 t2
  have x0 := hxx.c0
  have x1 := hxx.c1
  have x2 := hxx.c2
  have x3 := hxx.c3
  have hl3 := hM1.rt.lt
  obtain ⟨kd, ix, od, vl⟩ := x
  simp only at x0 x1 x2 x3
  have hvv := hxx.v0
  have hkk := hxx.k0
  go_upto_region 4 with (fail)
  have hM4 := hM1.below ((Below.refl w1.heap.size w1).alloc (Nat.le_refl _) (.cells #[.int .i64 kd, .int .i64 ix, .int .u64 od, .int .u64 vl] 69))
  have lX := Lies.new w1 69 #[.int .i64 kd, .int .i64 ix, .int .u64 od, .int .u64 vl]
  clear q0 q1 t0 t1 t2 f1 x0 x1 x2 x3 hM1 hxx
  generalize (w1.alloc (.cells #[.int .i64 kd, .int .i64 ix, .int .u64 od, .int .u64 vl] 69)) = w4 at *
  generalize w1.heap.size = X at *
  have t1 := hM4.tk.cell 1
  have f1 := hM4.tk.frozen 1
  simp at t1
  go_upto_region 5 with (fail)
  have hM5 := hM4.put ((d : Int) + 1)
  have lX5 : Lies (w4.setCell ⟨S + 1, 1, none⟩ (.int .i64 ((d : Int) + 1))) X 69 #[.int .i64 kd, .int .i64 ix, .int .u64 od, .int .u64 vl] := lX.far (p := ⟨S + 1, 1, none⟩) (by have := hM4.rt.lt; simp; omega) _
  clear t1 f1 hM4 lX
  generalize (w4.setCell ⟨S + 1, 1, none⟩ (.int .i64 ((d : Int) + 1))) = w5 at *
  have x0 := lX5.cell 0
  have x1 := lX5.cell 1
  have x2 := lX5.cell 2
  have x3 := lX5.cell 3
  have q0 := hM5.ar.cell 0
  have q1 := hM5.ar.cell 1
  have t0 := hM5.tk.cell 0
  have t1 := hM5.tk.cell 1
  have t2 := hM5.tk.cell 2
  have r0 := hM5.ra.cell 0
  have r1 := hM5.ra.cell 1
  have u0 := hM5.rt.cell 0
  have u1 := hM5.rt.cell 1
  have u2 := hM5.rt.cell 2
  simp at x0 x1 x2 x3 q0 q1 t0 t1 t2 r0 r1 u0 u1 u2
  have fr0 := hM5.ra.frozen 0
  have fr1 := hM5.ra.frozen 1
  have fu0 := hM5.rt.frozen 0
  have fu1 := hM5.rt.frozen 1
  have fu2 := hM5.rt.frozen 2
  rcases (by omega : (kd < 0 ∨ 0 ≤ kd ∧ 3 < kd) ∨ (0 ≤ kd ∧ kd ≤ 3)) with hno | hyes
  · have E := Lib.hid (act1_no (s := ⟨l, k, fun _ => sm⟩) (j := 0) (x := ⟨kd, ix, od, vl⟩) (by show kd < 0 ∨ 3 < kd; omega))
    rcases hno with h0 | ⟨h0, h1⟩
    · go_wp2_with fail
      go_region
      go_wp2
      have hE := send hM5 g cap k l hM5.h (by have := hM5.old; omega) (by have := hM5.old; omega) ((d : Int) + 1) sm
      have HW := Lib.hid hM5.at_
      clear hM5 q0 q1 t0 t1 t2 r0 r1 u0 u1 u2 fr0 fr1 fu0 fu1 fu2
      generalize (((((w5.setCell ⟨S + 1 + 1, 0, none⟩ (.slice (some ⟨g, 0, none⟩) n cap)).setCell ⟨S + 1 + 1, 1, none⟩ (.int .i64 k)).setCell ⟨S + 1 + 1 + 1, 0, none⟩ (.slice (some a) nn cp)).setCell ⟨S + 1 + 1 + 1, 1, none⟩ (.int .i64 ((d : Int) + 1))).setCell ⟨S + 1 + 1 + 1, 2, none⟩ (.int .u64 sm)).drew = V at *
      have v0 := hE.ra.cell 0
      have v1 := hE.ra.cell 1
      have z0 := hE.rt.cell 0
      have z1 := hE.rt.cell 1
      have z2 := hE.rt.cell 2
      simp at v0 v1 z0 z1 z2
      rw [E.out]
      refine bodyPost_ret (v := .tuple #[.agg #[.slice (some ⟨g, 0, none⟩) n cap, .int .i64 k], .agg #[.slice (some a) nn cp, .int .i64 ((d : Int) + 1), .int .u64 sm]]) (by simp [results, Try.results31, go_sem, v0, v1, z0, z1, z2]) rfl ⟨g, cap, by simp, hE.h, by rw [HW.out]; exact hE.be⟩
    · go_wp2_with fail
      go_region
      go_wp2
      have hE := send hM5 g cap k l hM5.h (by have := hM5.old; omega) (by have := hM5.old; omega) ((d : Int) + 1) sm
      have HW := Lib.hid hM5.at_
      clear hM5 q0 q1 t0 t1 t2 r0 r1 u0 u1 u2 fr0 fr1 fu0 fu1 fu2
      generalize (((((w5.setCell ⟨S + 1 + 1, 0, none⟩ (.slice (some ⟨g, 0, none⟩) n cap)).setCell ⟨S + 1 + 1, 1, none⟩ (.int .i64 k)).setCell ⟨S + 1 + 1 + 1, 0, none⟩ (.slice (some a) nn cp)).setCell ⟨S + 1 + 1 + 1, 1, none⟩ (.int .i64 ((d : Int) + 1))).setCell ⟨S + 1 + 1 + 1, 2, none⟩ (.int .u64 sm)).drew = V at *
      have v0 := hE.ra.cell 0
      have v1 := hE.ra.cell 1
      have z0 := hE.rt.cell 0
      have z1 := hE.rt.cell 1
      have z2 := hE.rt.cell 2
      simp at v0 v1 z0 z1 z2
      rw [E.out]
      refine bodyPost_ret (v := .tuple #[.agg #[.slice (some ⟨g, 0, none⟩) n cap, .int .i64 k], .agg #[.slice (some a) nn cp, .int .i64 ((d : Int) + 1), .int .u64 sm]]) (by simp [results, Try.results31, go_sem, v0, v1, z0, z1, z2]) rfl ⟨g, cap, by simp, hE.h, by rw [HW.out]; exact hE.be⟩
  · obtain ⟨E1, E2, E3⟩ := act1_K (s := ⟨l, k, fun _ => sm⟩) (j := 0) (x := ⟨kd, ix, od, vl⟩) hyes
    have E1 := Lib.hid E1
    have E2 := Lib.hid E2
    have E3 := Lib.hid E3
    have cD := rdoK (cp := cap) kd ix od vl hyes hM5.h hn hm hk0 hk hf
    obtain ⟨h0, h3⟩ := hyes
    go_wp2_with fail
    refine cD.mono ?_
    rintro e w6 ⟨g2, cap2, rfl, hH6, hb6⟩
    have hM6 := hM5.below hb6
    have lX6 := lX5.below hb6 lX5.lt
    have n2 : g2 ≠ S + 2 := by obtain ⟨cur, hl, _⟩ := hH6; exact hl.unlike hM6.ra (by decide)
    have n3 : g2 ≠ S + 3 := by obtain ⟨cur, hl, _⟩ := hH6; exact hl.unlike hM6.rt (by decide)
    have n1 : g2 ≠ S + 1 := by obtain ⟨cur, hl, _⟩ := hH6; exact hl.unlike hM6.tk (by decide)
    obtain ⟨kk, hkk2⟩ : ∃ kk, moreA l ix k = kk := ⟨_, rfl⟩
    obtain ⟨ll, hll⟩ : ∃ ll, newK kd l ix od vl = ll := ⟨_, rfl⟩
    obtain ⟨an, han⟩ : ∃ an, ansK kd l ix = an := ⟨_, rfl⟩
    obtain ⟨ob, hob⟩ : ∃ ob, okK kd l ix od = ob := ⟨_, rfl⟩
    rw [hkk2, han, hob]
    rw [hll] at hH6
    have H1 := Lib.hid hkk2
    have H2 := Lib.hid hll
    have H3 := Lib.hid han
    have H4 := Lib.hid hob
    clear hkk2 hll han hob cD x0 x1 x2 x3 q0 q1 t0 t1 t2 r0 r1 u0 u1 u2 fr0 fr1 fu0 fu1 fu2 hM5 lX5
    go_upto_region 8 with (fail)
    have al := (Below.refl w6.heap.size w6).alloc (Nat.le_refl _) (.cells #[.slice (some ⟨g2, 0, none⟩) n cap2, .int .i64 kk] 32)
    have hM7 := hM6.below al
    have lX7 := lX6.below al lX6.lt
    have lY7 := Lies.new w6 32 #[.slice (some ⟨g2, 0, none⟩) n cap2, .int .i64 kk]
    have hH7 := hH6.keep al hH6.lt
    have hXS : X ≠ S + 1 := lX7.unlike hM7.tk (by decide)
    have hYS : w6.heap.size ≠ S + 1 := by have := hM6.rt.lt; omega
    have hY2 : ¬ w6.heap.size = S + 2 := by have := hM6.rt.lt; omega
    have hY3 : ¬ w6.heap.size = S + 3 := by have := hM6.rt.lt; omega
    clear hM6 lX6 hH6 al
    generalize (w6.alloc (.cells #[.slice (some ⟨g2, 0, none⟩) n cap2, .int .i64 kk] 32)) = w7 at *
    generalize w6.heap.size = Y at *
    have t2 := hM7.tk.cell 2
    have f2 := hM7.tk.frozen 2
    simp at t2
    go_upto_region 9 with (fail)
    have hM8 := hM7.sum (IntKind.u64.wrap (IntKind.u64.wrap (sm * 3) + an))
    have lX8 := lX7.far (p := ⟨S + 1, 2, none⟩) hXS (.int .u64 (IntKind.u64.wrap (IntKind.u64.wrap (sm * 3) + an)))
    have lY8 := lY7.far (p := ⟨S + 1, 2, none⟩) hYS (.int .u64 (IntKind.u64.wrap (IntKind.u64.wrap (sm * 3) + an)))
    have hH8 := hH7.far (p := ⟨S + 1, 2, none⟩) n1 (.int .u64 (IntKind.u64.wrap (IntKind.u64.wrap (sm * 3) + an)))
    clear hM7 lX7 lY7 hH7 t2 f2
    generalize (w7.setCell ⟨S + 1, 2, none⟩ (.int .u64 (IntKind.u64.wrap (IntKind.u64.wrap (sm * 3) + an)))) = w8 at *
    obtain ⟨s8, hs8⟩ : ∃ s8, IntKind.u64.wrap (IntKind.u64.wrap (sm * 3) + an) = s8 := ⟨_, rfl⟩
    have HS8 := Lib.hid hs8
    rw [hs8] at hM8
    simp only [hs8]
    clear hs8
    have hx0 := lX8.cell 0
    simp at hx0
    cases ob with
    | false =>
      have y0 := lY8.cell 0
      have y1 := lY8.cell 1
      have t0 := hM8.tk.cell 0
      have t1 := hM8.tk.cell 1
      have t2 := hM8.tk.cell 2
      have r0 := hM8.ra.cell 0
      have r1 := hM8.ra.cell 1
      have u0 := hM8.rt.cell 0
      have u1 := hM8.rt.cell 1
      have u2 := hM8.rt.cell 2
      simp at y0 y1 t0 t1 t2 r0 r1 u0 u1 u2
      have fr0 := hM8.ra.frozen 0
      have fr1 := hM8.ra.frozen 1
      have fu0 := hM8.rt.frozen 0
      have fu1 := hM8.rt.frozen 1
      have fu2 := hM8.rt.frozen 2
      have lt3 := hM8.rt.lt
      have yS2 : ¬ Y = S + 2 := hY2
      have yS3 : ¬ Y = S + 3 := hY3
      go_wp2_with fail
      go_region
      go_wp2
      have hE := send hM8 g2 cap2 kk ll hH8 n2 n3 ((d : Int) + 1) s8
      have HW := Lib.hid hM8.at_
      clear hM8 y0 y1 t0 t1 t2 r0 r1 u0 u1 u2 fr0 fr1 fu0 fu1 fu2 lt3
      generalize (((((w8.setCell ⟨S + 1 + 1, 0, none⟩ (.slice (some ⟨g2, 0, none⟩) n cap2)).setCell ⟨S + 1 + 1, 1, none⟩ (.int .i64 kk)).setCell ⟨S + 1 + 1 + 1, 0, none⟩ (.slice (some a) nn cp)).setCell ⟨S + 1 + 1 + 1, 1, none⟩ (.int .i64 ((d : Int) + 1))).setCell ⟨S + 1 + 1 + 1, 2, none⟩ (.int .u64 s8)).drew = V at *
      have v0 := hE.ra.cell 0
      have v1 := hE.ra.cell 1
      have z0 := hE.rt.cell 0
      have z1 := hE.rt.cell 1
      have z2 := hE.rt.cell 2
      simp at v0 v1 z0 z1 z2
      rw [E1.out, E2.out, E3.out, H1.out, H2.out, updF_same]
      refine bodyPost_ret (v := .tuple #[.agg #[.slice (some ⟨g2, 0, none⟩) n cap2, .int .i64 kk], .agg #[.slice (some a) nn cp, .int .i64 ((d : Int) + 1), .int .u64 s8]]) (by simp [results, Try.results31, go_sem, v0, v1, z0, z1, z2]) rfl ⟨g2, cap2, ?_, hE.h, by rw [HW.out]; exact hE.be⟩
      have hK : sumK kd l ix od sm = s8 := by
        unfold sumK
        rw [H4.out, H3.out]
        unfold tell
        rw [HS8.out]
        rw [if_neg (by simp)]
      rw [hK]
      simp
    | true =>
      by_cases hne : kd = 3
      · subst hne
        have t2 := hM8.tk.cell 2
        have f2 := hM8.tk.frozen 2
        simp at t2
        go_upto_region 11 with (fail)
        have hM9 := hM8.sum (IntKind.u64.wrap (s8 + 1))
        have lY9 := lY8.far (p := ⟨S + 1, 2, none⟩) hYS (.int .u64 (IntKind.u64.wrap (s8 + 1)))
        have hH9 := hH8.far (p := ⟨S + 1, 2, none⟩) n1 (.int .u64 (IntKind.u64.wrap (s8 + 1)))
        clear t2 f2 hM8 lY8 hH8 lX8 hx0
        generalize (w8.setCell ⟨S + 1, 2, none⟩ (.int .u64 (IntKind.u64.wrap (s8 + 1)))) = w9 at *
        have y0 := lY9.cell 0
        have y1 := lY9.cell 1
        have t0 := hM9.tk.cell 0
        have t1 := hM9.tk.cell 1
        have t2 := hM9.tk.cell 2
        have r0 := hM9.ra.cell 0
        have r1 := hM9.ra.cell 1
        have u0 := hM9.rt.cell 0
        have u1 := hM9.rt.cell 1
        have u2 := hM9.rt.cell 2
        simp at y0 y1 t0 t1 t2 r0 r1 u0 u1 u2
        have fr0 := hM9.ra.frozen 0
        have fr1 := hM9.ra.frozen 1
        have fu0 := hM9.rt.frozen 0
        have fu1 := hM9.rt.frozen 1
        have fu2 := hM9.rt.frozen 2
        have lt3 := hM9.rt.lt
        have yS2 : ¬ Y = S + 2 := hY2
        have yS3 : ¬ Y = S + 3 := hY3
        go_wp2_with fail
        go_region
        go_wp2
        have hE := send hM9 g2 cap2 kk ll hH9 n2 n3 ((d : Int) + 1) (IntKind.u64.wrap (s8 + 1))
        have HW := Lib.hid hM9.at_
        clear hM9 y0 y1 t0 t1 t2 r0 r1 u0 u1 u2 fr0 fr1 fu0 fu1 fu2 lt3
        generalize (((((w9.setCell ⟨S + 1 + 1, 0, none⟩ (.slice (some ⟨g2, 0, none⟩) n cap2)).setCell ⟨S + 1 + 1, 1, none⟩ (.int .i64 kk)).setCell ⟨S + 1 + 1 + 1, 0, none⟩ (.slice (some a) nn cp)).setCell ⟨S + 1 + 1 + 1, 1, none⟩ (.int .i64 ((d : Int) + 1))).setCell ⟨S + 1 + 1 + 1, 2, none⟩ (.int .u64 (IntKind.u64.wrap (s8 + 1)))).drew = V at *
        have v0 := hE.ra.cell 0
        have v1 := hE.ra.cell 1
        have z0 := hE.rt.cell 0
        have z1 := hE.rt.cell 1
        have z2 := hE.rt.cell 2
        simp at v0 v1 z0 z1 z2
        rw [E1.out, E2.out, E3.out, H1.out, H2.out, updF_same]
        refine bodyPost_ret (v := .tuple #[.agg #[.slice (some ⟨g2, 0, none⟩) n cap2, .int .i64 kk], .agg #[.slice (some a) nn cp, .int .i64 ((d : Int) + 1), .int .u64 (IntKind.u64.wrap (s8 + 1))]]) (by simp [results, Try.results31, go_sem, v0, v1, z0, z1, z2]) rfl ⟨g2, cap2, ?_, hE.h, by rw [HW.out]; exact hE.be⟩
        have hK : sumK 3 l ix od sm = (IntKind.u64.wrap (s8 + 1)) := by
          unfold sumK
          rw [H4.out, H3.out]
          unfold tell
          rw [HS8.out]
          rw [if_pos ⟨rfl, rfl⟩]
        rw [hK]
        simp
      · have hb3 : (kd == 3) = false := by simp [hne]
        have y0 := lY8.cell 0
        have y1 := lY8.cell 1
        have t0 := hM8.tk.cell 0
        have t1 := hM8.tk.cell 1
        have t2 := hM8.tk.cell 2
        have r0 := hM8.ra.cell 0
        have r1 := hM8.ra.cell 1
        have u0 := hM8.rt.cell 0
        have u1 := hM8.rt.cell 1
        have u2 := hM8.rt.cell 2
        simp at y0 y1 t0 t1 t2 r0 r1 u0 u1 u2
        have fr0 := hM8.ra.frozen 0
        have fr1 := hM8.ra.frozen 1
        have fu0 := hM8.rt.frozen 0
        have fu1 := hM8.rt.frozen 1
        have fu2 := hM8.rt.frozen 2
        have lt3 := hM8.rt.lt
        have yS2 : ¬ Y = S + 2 := hY2
        have yS3 : ¬ Y = S + 3 := hY3
        go_wp2_with fail
        go_region
        go_wp2
        have hE := send hM8 g2 cap2 kk ll hH8 n2 n3 ((d : Int) + 1) s8
        have HW := Lib.hid hM8.at_
        clear hM8 y0 y1 t0 t1 t2 r0 r1 u0 u1 u2 fr0 fr1 fu0 fu1 fu2 lt3
        generalize (((((w8.setCell ⟨S + 1 + 1, 0, none⟩ (.slice (some ⟨g2, 0, none⟩) n cap2)).setCell ⟨S + 1 + 1, 1, none⟩ (.int .i64 kk)).setCell ⟨S + 1 + 1 + 1, 0, none⟩ (.slice (some a) nn cp)).setCell ⟨S + 1 + 1 + 1, 1, none⟩ (.int .i64 ((d : Int) + 1))).setCell ⟨S + 1 + 1 + 1, 2, none⟩ (.int .u64 s8)).drew = V at *
        have v0 := hE.ra.cell 0
        have v1 := hE.ra.cell 1
        have z0 := hE.rt.cell 0
        have z1 := hE.rt.cell 1
        have z2 := hE.rt.cell 2
        simp at v0 v1 z0 z1 z2
        rw [E1.out, E2.out, E3.out, H1.out, H2.out, updF_same]
        refine bodyPost_ret (v := .tuple #[.agg #[.slice (some ⟨g2, 0, none⟩) n cap2, .int .i64 kk], .agg #[.slice (some a) nn cp, .int .i64 ((d : Int) + 1), .int .u64 s8]]) (by simp [results, Try.results31, go_sem, v0, v1, z0, z1, z2]) rfl ⟨g2, cap2, ?_, hE.h, by rw [HW.out]; exact hE.be⟩
        have hK : sumK kd l ix od sm = s8 := by
          unfold sumK
          rw [H4.out, H3.out]
          unfold tell
          rw [HS8.out]
          rw [if_neg (by rintro ⟨_, h⟩; exact hne h)]
        rw [hK]
        simp

end Go.Proofs.Ytbkopghghoolmaa
