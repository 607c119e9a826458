/- The code of acts. -/
import Derived.Test.YtbkopghghoolmaaQ8
namespace Go.Proofs.Ytbkopghghoolmaa
open Go.RowKit

/-- the boxes that a code's closures share. -/
structure Boxes (w : World) (p : Nat) (S a : Addr) (n cp : Nat) (N : Nat) : Prop where
  bx : Lies w N 26 #[ptr p]
  l : Lies w (N + 1) 37 #[.slice (some a) n cp]
  s : Lies w (N + 2) 43 #[.pointer (some S)]
  r : Lies w (N + 4) 40 #[.func (.func 23) #[] #[ptr N, ptr (N + 1), ptr (N + 2)]]
  t : Lies w (N + 5) 56 #[.func (.func 24) #[] #[ptr (N + 2), ptr (N + 4)]]

theorem Boxes.moves {w w' : World} {p : Nat} {S a : Addr} {n cp N B : Nat} {LL : List Nat} (h : Boxes w p S a n cp N) (k : Moves B LL w w') (hN : ∀ b, b ∈ LL → b < N) : Boxes w' p S a n cp N := by
  have out : ∀ i, N + i ∉ LL := fun i hm => by have := hN _ hm; omega
  exact ⟨k.lies h.bx (out 0) (by decide), k.lies h.l (out 1) (by decide), k.lies h.s (out 2) (by decide), k.lies h.r (out 4) (by decide), k.lies h.t (out 5) (by decide)⟩

/-- behind the three parameters' boxes. -/
structure Pre3 (w : World) (p : Nat) (S a : Addr) (n cp : Nat) (x : Act4) (N : Nat) (W : World) : Prop where
  bx : Lies W N 26 #[ptr p]
  l : Lies W (N + 1) 37 #[.slice (some a) n cp]
  s : Lies W (N + 2) 43 #[.pointer (some S)]
  x : ActAt W a x
  be : Below w.heap.size w W
  at_ : w.heap.size = N
  size : W.heap.size = N + 3
theorem pre3 (w : World) (p : Nat) (S a : Addr) (n cp : Nat) (x : Act4) (hx : ActAt w a x) (ha : a.block < w.heap.size) :
    Pre3 w p S a n cp x w.heap.size (((w.alloc (.cells #[ptr p] 26)).alloc (.cells #[.slice (some a) n cp] 37)).alloc (.cells #[.pointer (some S)] 43)) := by
  have hb : Below w.heap.size w (((w.alloc (.cells #[ptr p] 26)).alloc (.cells #[.slice (some a) n cp] 37)).alloc (.cells #[.pointer (some S)] 43)) :=
    (((Below.refl _ _).alloc (Nat.le_refl _) _).alloc (by simp) _).alloc (by simp; omega) _
  refine ⟨((Lies.new _ _ _).alloc _).alloc _, ?_, ?_, ?_, hb, rfl, by simp⟩
  · have := (Lies.new (w.alloc (.cells #[ptr p] 26)) 37 #[.slice (some a) n cp]).alloc (.cells #[.pointer (some S)] 43)
    simpa using this
  · have := Lies.new ((w.alloc (.cells #[ptr p] 26)).alloc (.cells #[.slice (some a) n cp] 37)) 43 #[.pointer (some S)]
    simpa using this
  · exact ⟨(hb.cell (p := a) ha).trans hx.c0, (hb.cell (p := ⟨a.block, a.off + 1, none⟩) ha).trans hx.c1, (hb.cell (p := ⟨a.block, a.off + 2, none⟩) ha).trans hx.c2, (hb.cell (p := ⟨a.block, a.off + 3, none⟩) ha).trans hx.c3, hx.k0, hx.c0', hx.o0, hx.v0⟩

/-- behind all boxes. -/
structure Pre6 (w : World) (p : Nat) (S a : Addr) (n cp : Nat) (x : Act4) (N : Nat) (W : World) : Prop where
  bo : Boxes W p S a n cp N
  x : Lies W (N + 3) 69 #[.int .i64 x.kd, .int .i64 x.ix, .int .u64 x.od, .int .u64 x.vl]
  be : Below w.heap.size w W
  at_ : w.heap.size = N
  size : W.heap.size = N + 6
theorem pre6 {w : World} {p : Nat} {S a : Addr} {n cp : Nat} {x : Act4} {N : Nat} {W : World} (h : Pre3 w p S a n cp x N W) :
    Pre6 w p S a n cp x N (((W.alloc (.cells #[.int .i64 x.kd, .int .i64 x.ix, .int .u64 x.od, .int .u64 x.vl] 69)).alloc (.cells #[.func (.func 23) #[] #[ptr N, ptr (N + 1), ptr (N + 1 + 1)]] 40)).alloc (.cells #[.func (.func 24) #[] #[ptr (N + 1 + 1), ptr (N + 3 + 1)]] 56)) := by
  have hs := h.size
  have ha := h.at_
  refine ⟨⟨((h.bx.alloc _).alloc _).alloc _, ((h.l.alloc _).alloc _).alloc _, ((h.s.alloc _).alloc _).alloc _, ?_, ?_⟩, ?_, ((h.be.alloc (by omega) _).alloc (by simp; omega) _).alloc (by simp; omega) _, ha, by simp; omega⟩
  · have := (Lies.new (W.alloc (.cells #[.int .i64 x.kd, .int .i64 x.ix, .int .u64 x.od, .int .u64 x.vl] 69)) 40 #[.func (.func 23) #[] #[ptr N, ptr (N + 1), ptr (N + 1 + 1)]]).alloc (.cells #[.func (.func 24) #[] #[ptr (N + 1 + 1), ptr (N + 3 + 1)]] 56)
    rw [World.size_alloc, hs] at this
    exact this
  · have := Lies.new ((W.alloc (.cells #[.int .i64 x.kd, .int .i64 x.ix, .int .u64 x.od, .int .u64 x.vl] 69)).alloc (.cells #[.func (.func 23) #[] #[ptr N, ptr (N + 1), ptr (N + 1 + 1)]] 40)) 56 #[.func (.func 24) #[] #[ptr (N + 1 + 1), ptr (N + 3 + 1)]]
    rw [World.size_alloc, World.size_alloc, hs] at this
    exact this
  · have := ((Lies.new W 69 #[.int .i64 x.kd, .int .i64 x.ix, .int .u64 x.od, .int .u64 x.vl]).alloc (.cells #[.func (.func 23) #[] #[ptr N, ptr (N + 1), ptr (N + 1 + 1)]] 40)).alloc (.cells #[.func (.func 24) #[] #[ptr (N + 1 + 1), ptr (N + 3 + 1)]] 56)
    rw [hs] at this
    exact this

/-- the value of an act's code. -/
inductive CodeV (w : World) (p N : Nat) (x : Act4) : Value → Prop
  | load (b0 b1 b2 : Nat) (h : x.kd = 0) (h0 : Lies w b0 56 #[.func (.func 24) #[] #[ptr (N + 2), ptr (N + 4)]]) (h1 : Lies w b1 26 #[ptr p]) (h2 : Lies w b2 3 #[.int .i64 x.ix])
      (n0 : N ≤ b0) (n1 : N ≤ b1) (n2 : N ≤ b2) : CodeV w p N x (.func (.func 34) #[] #[ptr b0, ptr b1, ptr b2])
  | store (b0 b1 b2 b3 : Nat) (h : x.kd = 1) (h0 : Lies w b0 26 #[ptr p]) (h1 : Lies w b1 3 #[.int .i64 x.ix]) (h2 : Lies w b2 44 #[.int .u64 x.vl]) (h3 : Lies w b3 40 #[.func (.func 25) #[] #[ptr (N + 5)]])
      (n0 : N ≤ b0) (n1 : N ≤ b1) (n2 : N ≤ b2) (n3 : N ≤ b3) : CodeV w p N x (.func (.func 35) #[] #[ptr b0, ptr b1, ptr b2, ptr b3])
  | swap (b0 b1 b2 b3 : Nat) (h : x.kd = 2) (h0 : Lies w b0 56 #[.func (.func 24) #[] #[ptr (N + 2), ptr (N + 4)]]) (h1 : Lies w b1 26 #[ptr p]) (h2 : Lies w b2 3 #[.int .i64 x.ix]) (h3 : Lies w b3 44 #[.int .u64 x.vl])
      (n0 : N ≤ b0) (n1 : N ≤ b1) (n2 : N ≤ b2) (n3 : N ≤ b3) : CodeV w p N x (.func (.func 38) #[] #[ptr b0, ptr b1, ptr b2, ptr b3])
  | cas (b0 b1 b2 b3 b4 : Nat) (h : x.kd = 3) (h0 : Lies w b0 72 #[.func (.func 28) #[] #[ptr (N + 5)]]) (h1 : Lies w b1 26 #[ptr p]) (h2 : Lies w b2 3 #[.int .i64 x.ix]) (h3 : Lies w b3 44 #[.int .u64 x.od]) (h4 : Lies w b4 44 #[.int .u64 x.vl])
      (n0 : N ≤ b0) (n1 : N ≤ b1) (n2 : N ≤ b2) (n3 : N ≤ b3) (n4 : N ≤ b4) : CodeV w p N x (.func (.func 40) #[] #[ptr b0, ptr b1, ptr b2, ptr b3, ptr b4])
  | idle (b0 : Nat) (h : x.kd ≠ 0 ∧ x.kd ≠ 1 ∧ x.kd ≠ 2 ∧ x.kd ≠ 3) (h0 : Lies w b0 40 #[.func (.func 23) #[] #[ptr N, ptr (N + 1), ptr (N + 2)]]) (n0 : N ≤ b0) : CodeV w p N x (.func (.func 42) #[] #[ptr b0])

/-- behind code: the boxes, and the value. -/
def Coded (w : World) (p : Nat) (S a : Addr) (n cp : Nat) (x : Act4) (e : Ending) (w' : World) : Prop :=
  ∃ v, e = .returned v ∧ Boxes w' p S a n cp w.heap.size ∧ CodeV w' p w.heap.size x v ∧ Below w.heap.size w w'

theorem Lies.new_at {w : World} {b : Nat} (t : TypeId) (cs : Array Value) (h : w.heap.size = b) : Lies (w.alloc (.cells cs t)) b t cs := h ▸ Lies.new w t cs

section
variable {w : World} {p : Nat} {S a : Addr} {n cp : Nat} {x : Act4} {N : Nat} {W : World}
theorem Boxes.alloc (h : Boxes w p S a n cp N) (o : Obj) : Boxes (w.alloc o) p S a n cp N := ⟨h.bx.alloc o, h.l.alloc o, h.s.alloc o, h.r.alloc o, h.t.alloc o⟩

set_option maxHeartbeats 2000000 in
theorem code_pre (w : World) (hn : 0 < n) (hx : ActAt w a x) (ha : a.block < w.heap.size) :
    Calls Try.prog 9 #[ptr p, .slice (some a) n cp, .pointer (some S)] w (Coded w p S a n cp x) := by
  have hmf : ∀ (fn : Fn) (first cap : Array Value) (w : World), (Instr.makeFunc fn first cap).run Try.prog w = .ok (.func fn first cap) w := fun _ _ _ _ => rfl
  have y2 := fun (a : Addr) (f : FuncId) (c : Array Value) (w : World) => run_store Try.prog w a (.func (.func f) #[] c) .plain rfl
  have hb0 : ((n : Int) == 0) = false := by simp; omega
  have hP := pre3 w p S a n cp x hx ha
  have hk : x.kd = 0 ∨ x.kd = 1 ∨ x.kd = 2 ∨ x.kd = 3 ∨ (x.kd ≠ 0 ∧ x.kd ≠ 1 ∧ x.kd ≠ 2 ∧ x.kd ≠ 3) := by omega
  go_enter Try.func9, Try.ntmps9
  go_upto_region 3 with (fail)
  generalize (((w.alloc (.cells #[ptr p] 26)).alloc (.cells #[.slice (some a) n cp] 37)).alloc (.cells #[.pointer (some S)] 43)) = W at *
  obtain ⟨N, hN⟩ : ∃ N, w.heap.size = N := ⟨_, rfl⟩
  rw [hN] at hP ha
  have HN := Lib.hid hN
  simp only [hN]
  clear hN
  have hsz := hP.size
  have c0 := hP.x.c0
  have c1 := hP.x.c1
  have c2 := hP.x.c2
  have c3 := hP.x.c3
  have k0 := hP.bx.cell 0
  have k1 := hP.l.cell 0
  have k2 := hP.s.cell 0
  simp at k0 k1 k2
  have hP6 := pre6 hP
  clear hx hP
  obtain ⟨kd, ix, od, vl⟩ := x
  simp only at c0 c1 c2 c3 hP6 hk
  go_upto_region 6 with (fail)
  generalize (((W.alloc (.cells #[.int .i64 kd, .int .i64 ix, .int .u64 od, .int .u64 vl] 69)).alloc (.cells #[.func (.func 23) #[] #[ptr N, ptr (N + 1), ptr (N + 1 + 1)]] 40)).alloc (.cells #[.func (.func 24) #[] #[ptr (N + 1 + 1), ptr (N + 3 + 1)]] 56)) = X at *
  have x0 := hP6.x.cell 0
  have x1 := hP6.x.cell 1
  have x2 := hP6.x.cell 2
  have x3 := hP6.x.cell 3
  have b0 := hP6.bo.bx.cell 0
  have b4 := hP6.bo.r.cell 0
  have b5 := hP6.bo.t.cell 0
  simp at x0 x1 x2 x3 b0 b4 b5
  have hs6 := hP6.size
  clear c0 c1 c2 c3 k0 k1 k2 hsz y2
  rcases hk with rfl | rfl | rfl | rfl | ⟨h0, h1, h2, h3⟩
  · go_wp2_with fail
    refine (mkload_any _ _ _ _ _).mono ?_
    rintro e w' ⟨rfl, rfl⟩
    go_wp2
    go_ret
    have hN := HN.out
    refine ⟨_, rfl, ?_, ?_, ?_⟩
    · rw [HN.out]; exact (((hP6.bo.alloc _).alloc _).alloc _)
    · rw [HN.out]
      exact .load _ _ _ rfl (Lies.new_at _ _ (by (try simp only [World.size_alloc]); omega)) (((Lies.new_at _ _ (by (try simp only [World.size_alloc]); omega)).alloc _).alloc _) ((Lies.new_at _ _ (by (try simp only [World.size_alloc]); omega)).alloc _) (by omega) (by omega) (by omega)
    · exact (((hP6.be.alloc (by (try simp only [World.size_alloc]); omega) _).alloc (by (try simp only [World.size_alloc]); omega) _).alloc (by (try simp only [World.size_alloc]); omega) _)
  · go_wp2_with fail
    refine (mkstore_any _ _ _ _ _ _).mono ?_
    rintro e w' ⟨rfl, rfl⟩
    go_wp2
    go_ret
    have hN := HN.out
    refine ⟨_, rfl, ?_, ?_, ?_⟩
    · rw [HN.out]; exact ((((hP6.bo.alloc _).alloc _).alloc _).alloc _)
    · rw [HN.out]
      exact .store _ _ _ _ rfl ((((Lies.new_at _ _ (by (try simp only [World.size_alloc]); omega)).alloc _).alloc _).alloc _) (((Lies.new_at _ _ (by (try simp only [World.size_alloc]); omega)).alloc _).alloc _) ((Lies.new_at _ _ (by (try simp only [World.size_alloc]); omega)).alloc _) (Lies.new_at _ _ (by (try simp only [World.size_alloc]); omega)) (by omega) (by omega) (by omega) (by omega)
    · exact ((((hP6.be.alloc (by (try simp only [World.size_alloc]); omega) _).alloc (by (try simp only [World.size_alloc]); omega) _).alloc (by (try simp only [World.size_alloc]); omega) _).alloc (by (try simp only [World.size_alloc]); omega) _)
  · go_wp2_with fail
    refine (mkswap_any _ _ _ _ _ _).mono ?_
    rintro e w' ⟨rfl, rfl⟩
    go_wp2
    go_ret
    have hN := HN.out
    refine ⟨_, rfl, ?_, ?_, ?_⟩
    · rw [HN.out]; exact ((((hP6.bo.alloc _).alloc _).alloc _).alloc _)
    · rw [HN.out]
      exact .swap _ _ _ _ rfl (Lies.new_at _ _ (by (try simp only [World.size_alloc]); omega)) ((((Lies.new_at _ _ (by (try simp only [World.size_alloc]); omega)).alloc _).alloc _).alloc _) (((Lies.new_at _ _ (by (try simp only [World.size_alloc]); omega)).alloc _).alloc _) ((Lies.new_at _ _ (by (try simp only [World.size_alloc]); omega)).alloc _) (by omega) (by omega) (by omega) (by omega)
    · exact ((((hP6.be.alloc (by (try simp only [World.size_alloc]); omega) _).alloc (by (try simp only [World.size_alloc]); omega) _).alloc (by (try simp only [World.size_alloc]); omega) _).alloc (by (try simp only [World.size_alloc]); omega) _)
  · go_wp2_with fail
    refine (mkcas_any _ _ _ _ _ _ _).mono ?_
    rintro e w' ⟨rfl, rfl⟩
    go_wp2
    go_ret
    have hN := HN.out
    refine ⟨_, rfl, ?_, ?_, ?_⟩
    · rw [HN.out]; exact (((((hP6.bo.alloc _).alloc _).alloc _).alloc _).alloc _)
    · rw [HN.out]
      exact .cas _ _ _ _ _ rfl (Lies.new_at _ _ (by (try simp only [World.size_alloc]); omega)) (((((Lies.new_at _ _ (by (try simp only [World.size_alloc]); omega)).alloc _).alloc _).alloc _).alloc _) ((((Lies.new_at _ _ (by (try simp only [World.size_alloc]); omega)).alloc _).alloc _).alloc _) (((Lies.new_at _ _ (by (try simp only [World.size_alloc]); omega)).alloc _).alloc _) ((Lies.new_at _ _ (by (try simp only [World.size_alloc]); omega)).alloc _) (by omega) (by omega) (by omega) (by omega) (by omega)
    · exact (((((hP6.be.alloc (by (try simp only [World.size_alloc]); omega) _).alloc (by (try simp only [World.size_alloc]); omega) _).alloc (by (try simp only [World.size_alloc]); omega) _).alloc (by (try simp only [World.size_alloc]); omega) _).alloc (by (try simp only [World.size_alloc]); omega) _)
  · have e0 : (kd == 0) = false := by simp [h0]
    have e1 : (kd == 1) = false := by simp [h1]
    have e2 : (kd == 2) = false := by simp [h2]
    have e3 : (kd == 3) = false := by simp [h3]
    go_wp2_with fail
    refine (mkidle_any _ _ _).mono ?_
    rintro e w' ⟨rfl, rfl⟩
    go_wp2
    go_ret
    have hN := HN.out
    refine ⟨_, rfl, ?_, ?_, ?_⟩
    · rw [HN.out]; exact (hP6.bo.alloc _)
    · rw [HN.out]
      exact .idle _ ⟨h0, h1, h2, h3⟩ (Lies.new_at _ _ (by (try simp only [World.size_alloc]); omega)) (by omega)
    · exact (hP6.be.alloc (by (try simp only [World.size_alloc]); omega) _)
end
end Go.Proofs.Ytbkopghghoolmaa
