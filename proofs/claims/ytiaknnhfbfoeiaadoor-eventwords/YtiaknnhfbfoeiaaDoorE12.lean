/- Events: an event as a text. -/
import Derived.Test.YtiaknnhfbfoeiaaDoorE5
import Derived.Test.YtiaknnhfbfoeiaaDoorE11
import Derived.Lib.Join
namespace Go.Proofs.YtiaknnhfbfoeiaaDoor
open Go.RowKit Go.ChangeShapes Go.WideShapes
set_option maxRecDepth 100000

abbrev I6 (n : Int) : Prop := -9223372036854775808 ≤ n ∧ n ≤ 9223372036854775807
structure Ev.Ok (x : Ev) : Prop where
  k : I6 x.k
  w : I6 x.w
  o : I6 x.o
  hn : I6 x.hn
  hg : I6 x.hg
  nn : I6 x.nn
  ng : I6 x.ng
  t : I6 x.t
  a : I6 x.a
  u : I6 x.u
  e : I6 x.e
theorem cellsY {W : World} {b : Nat} {ty : TypeId} {k ww o hn hg nn ng t a u er : Int} {y : Bool} (h : Lies W b ty (Ev.c ⟨k, ww, o, hn, hg, nn, ng, t, a, u, y, er⟩)) : W.cell? ⟨b, 0, none⟩ = some (.int .i64 k) ∧ W.cell? ⟨b, 1, none⟩ = some (.int .i64 ww) ∧ W.cell? ⟨b, 2, none⟩ = some (.int .i64 o) ∧ W.cell? ⟨b, 3, none⟩ = some (.int .i64 hn) ∧ W.cell? ⟨b, 4, none⟩ = some (.int .i64 hg) ∧ W.cell? ⟨b, 5, none⟩ = some (.int .i64 nn) ∧ W.cell? ⟨b, 6, none⟩ = some (.int .i64 ng) ∧ W.cell? ⟨b, 7, none⟩ = some (.int .i64 t) ∧ W.cell? ⟨b, 8, none⟩ = some (.int .i64 a) ∧ W.cell? ⟨b, 9, none⟩ = some (.int .i64 u) ∧ W.cell? ⟨b, 10, none⟩ = some (.bool y) ∧ W.cell? ⟨b, 11, none⟩ = some (.int .i64 er) := Ev.cells h
theorem pc_len (b : Bool) (s : List UInt8) : (pc b s).length ≤ 1 := by cases b <;> simp [pc]
theorem mkf_run : ∀ (fn : Fn) (first cap : Array Value) (w : World), (Instr.makeFunc fn first cap).run Tryd.prog w = .ok (.func fn first cap) w := fun _ _ _ _ => rfl
/-- while a line is made. -/
structure Ln (w : World) (x : Ev) (hb lb : Nat) (l : Int) (v : Value) (ts : List (List UInt8)) (n : Nat) (W : World) : Prop where
  len : ts.length ≤ n
  sy : Sy W w.heap.size hb lb l v ts
  ev : Lies W w.heap.size 31 x.c
  be : Below w.heap.size w W
section
variable {w W W' : World} {x : Ev} {hb lb n : Nat} {l : Int} {v : Value} {ts : List (List UInt8)}
theorem Ln.below (h : Ln w x hb lb l v ts n W) (b : Below W.heap.size W W') : Ln w x hb lb l v ts n W' :=
  ⟨h.len, ⟨h.sy.has.below b h.sy.has.lt, h.sy.lst.below b h.sy.lst.lt, h.sy.row.kept fun g hg => by
    obtain ⟨_, cur, h1⟩ := h.sy.row.lies hg
    exact b.block g h1.lt⟩, h.ev.below b h.ev.lt, h.be.trans (b.mono h.be.size)⟩
theorem Ln.says (h : Ln w x hb lb l v ts n W) (hB : w.heap.size ≤ lb) (f : Int) (s : List UInt8) (hl : n ≤ 100) : Calls Tryd.prog 24 #[.int .u16 f, tx s, .pointer (some ⟨hb, 0, none⟩), .pointer (some ⟨lb, 0, none⟩)] W fun e w' => (∃ u, e = .returned u) ∧ ∃ v', Ln w x hb lb l v' (ts ++ pc (fb l f) s) (n + 1) w' := by
  refine (say_any f s h.sy h.be.size hB (Nat.le_trans h.len hl)).mono ?_
  rintro e w' ⟨he, v', h1, h2, h3⟩
  refine ⟨he, v', by rw [List.length_append]; have := h.len; have := pc_len (fb l f) s; omega, h1, h.ev.turn h2 fun hm => ?_, h.be.trans h3⟩
  rcases List.mem_cons.1 hm with e | hm
  · exact h.ev.unlike h.sy.lst (by decide) e
  · obtain ⟨_, cur, h9⟩ := h.sy.row.lies (g := w.heap.size) (by simpa using hm)
    exact h.ev.unlike h9 (by decide) rfl
end
theorem pc_all {b : Bool} {s : List UInt8} (h : s.length ≤ 100) : ∀ z, z ∈ pc b s → z.length ≤ 100 := by
  intro z hz
  cases b with
  | false => cases hz
  | true => rw [List.mem_singleton.1 hz]; exact h
theorem tail_len : ∀ (r : List (List UInt8)), (∀ z, z ∈ r → z.length ≤ 100) → (Lib.joinTail [32] r).length ≤ r.length * 101
  | [], _ => by simp [Lib.joinTail]
  | z :: r, h => by
    have h1 := tail_len r fun y hy => h y (List.mem_cons_of_mem _ hy)
    have h2 := h z (by simp)
    simp only [Lib.joinTail, List.map_cons, List.flatten_cons, List.length_append, List.length_cons, List.length_nil] at h1 ⊢
    omega
theorem join_len {ts : List (List UInt8)} (h : ∀ z, z ∈ ts → z.length ≤ 100) (hl : ts.length ≤ 1000) : (Lib.join ts [32]).length ≤ 140737488355328 := by
  cases ts with
  | nil => simp [Lib.join_nil]
  | cons z r =>
    rw [Lib.join_cons, List.length_append]
    have h1 := tail_len r fun y hy => h y (List.mem_cons_of_mem _ hy)
    have h2 := h z (by simp)
    simp at hl
    omega
theorem join_any {B : Nat} {W : World} {v : Value} {ts : List (List UInt8)} (h : VRow W B 9 v (ts.map tx)) (hp : 0 < ts.length) (hl : ts.length ≤ 1000) (ha : ∀ z, z ∈ ts → z.length ≤ 100) : Calls Tryd.prog 28 #[v, tx [32]] W fun e w' => e = .returned (tx (Lib.join ts [32])) ∧ Below W.heap.size W w' := by
  obtain ⟨A, cp, e, _, h2⟩ := h.slice
  rw [List.length_map] at e h2
  obtain ⟨g, rfl, ho, hc⟩ := h2 hp
  obtain ⟨_, cur, hlg⟩ := h.lies ho
  have hcap : ts.length ≤ cp := by
    rcases h.own.2 with ⟨h3, _⟩ | ⟨g', cap, cur', h3, _, _, h4, _⟩
    · rw [h3] at e; cases e
    · rw [h3] at e
      injection e with _ _ e3
      subst e3
      rw [List.length_map] at h4
      exact h4
  have hj := Tryd.strings_Join g 0 cp (ts.map fun l => (⟨l.toArray⟩ : ByteArray)) ⟨#[32]⟩ W (fun j x hx => by
    rw [Nat.zero_add]
    refine hc j _ ?_
    rw [List.getElem?_map] at hx ⊢
    obtain ⟨l, h3, rfl⟩ := Option.map_eq_some_iff.1 hx
    rw [h3]; rfl) hlg.lt (by rw [List.length_map]; omega) (by rw [List.length_map]; exact hcap) (by
    rw [List.map_map]
    have e1 : (ts.map ((fun b : ByteArray => b.data.toList) ∘ fun l => (⟨l.toArray⟩ : ByteArray))) = ts := by
      rw [show ((fun b : ByteArray => b.data.toList) ∘ fun l : List UInt8 => (⟨l.toArray⟩ : ByteArray)) = id from rfl, List.map_id]
    rw [e1]
    exact join_len ha hl)
  rw [List.length_map, List.map_map] at hj
  rw [show ((fun b : ByteArray => b.data.toList) ∘ fun l : List UInt8 => (⟨l.toArray⟩ : ByteArray)) = id from rfl, List.map_id] at hj
  rw [e]
  exact hj

/-- what a line tells, word by word. -/
def words (x : Ev) (l : Int) : List (List UInt8) := [kN.getD x.k.toNat []] ++ pc (fb l 1) (Lib.itoa x.w) ++ pc (fb l 2) (oN.getD x.o.toNat []) ++ pc (fb l 4) (hdT x.hn x.hg) ++ pc (fb l 8) (hdT x.nn x.ng) ++ pc (fb l 16) (Lib.itoa x.t) ++ pc (fb l 32) (Lib.itoa x.a) ++ pc (fb l 64) (Lib.itoa x.u) ++ pc (fb l 128) (ysT x.y) ++ pc (fb l 256) (Lib.itoa x.e)
def lineC (x : Ev) : List UInt8 := if x.rightC then Lib.join (words x x.fl) [32] else []
theorem words_ok {x : Ev} (hx : x.Ok) (hk : x.k.toNat < 6) (ho : x.o.toNat < 8) (l : Int) : (∀ z, z ∈ words x l → z.length ≤ 100) ∧ (words x l).length ≤ 10 ∧ 0 < (words x l).length := by
  have hi : ∀ {n : Int}, I6 n → (Lib.itoa n).length ≤ 100 := fun h => Nat.le_trans (itoa_len h.1 h.2) (by decide)
  have hh : ∀ {n m : Int}, I6 n → I6 m → (hdT n m).length ≤ 100 := fun {n m} h1 h2 => by
    have := itoa_len h1.1 h1.2
    have := itoa_len h2.1 h2.2
    unfold hdT
    simp
    omega
  have hkn : (kN.getD x.k.toNat []).length ≤ 100 := by
    have h : ∀ i, i < 6 → (kN.getD i []).length ≤ 100 := by decide
    exact h _ hk
  have hon : (oN.getD x.o.toNat []).length ≤ 100 := by
    have h : ∀ i, i < 8 → (oN.getD i []).length ≤ 100 := by decide
    exact h _ ho
  have hys : (ysT x.y).length ≤ 100 := by cases x.y <;> decide
  refine ⟨fun z hz => ?_, ?_, ?_⟩
  · unfold words at hz
    simp only [List.mem_append] at hz
    rcases hz with ((((((((h | h) | h) | h) | h) | h) | h) | h) | h) | h
    · rw [List.mem_singleton.1 h]; exact hkn
    · exact pc_all (hi hx.w) z h
    · exact pc_all hon z h
    · exact pc_all (hh hx.hn hx.hg) z h
    · exact pc_all (hh hx.nn hx.ng) z h
    · exact pc_all (hi hx.t) z h
    · exact pc_all (hi hx.a) z h
    · exact pc_all (hi hx.u) z h
    · exact pc_all hys z h
    · exact pc_all (hi hx.e) z h
  · unfold words
    simp only [List.length_append]
    have := pc_len (fb l 1) (Lib.itoa x.w)
    have := pc_len (fb l 2) (oN.getD x.o.toNat [])
    have := pc_len (fb l 4) (hdT x.hn x.hg)
    have := pc_len (fb l 8) (hdT x.nn x.ng)
    have := pc_len (fb l 16) (Lib.itoa x.t)
    have := pc_len (fb l 32) (Lib.itoa x.a)
    have := pc_len (fb l 64) (Lib.itoa x.u)
    have := pc_len (fb l 128) (ysT x.y)
    have := pc_len (fb l 256) (Lib.itoa x.e)
    simp only [List.length_cons, List.length_nil]
    omega
  · unfold words
    simp only [List.length_append, List.length_cons, List.length_nil]
    omega

set_option maxHeartbeats 8000000 in
theorem line_any (x : Ev) (hx : x.Ok) (w : World) (hT : TabE w) : Calls Tryd.prog 11 #[.agg x.c] w fun e w' => e = .returned (tx (lineC x)) ∧ Below w.heap.size w w' := by
  have hR := fun W h => right_any x W h
  unfold lineC
  obtain ⟨rr, hrr⟩ : ∃ rr, x.rightC = rr := ⟨_, rfl⟩
  rw [hrr] at hR
  rw [hrr]
  have hfl : rr = true → x.fl ≠ 0 := fun e h0 => by
    rw [← hrr] at e
    unfold Ev.rightC at e
    rw [h0] at e
    simp at e
  have HWO := Lib.hid (fun h1 h2 l => words_ok hx h1 h2 l)
  obtain ⟨k, ww, o, hn, hg, nn, ng, t, a, u, y, er⟩ := x
  obtain ⟨W1, hW1⟩ : ∃ W1, w.alloc (.cells #[.int .i64 k, .int .i64 ww, .int .i64 o, .int .i64 hn, .int .i64 hg, .int .i64 nn, .int .i64 ng, .int .i64 t, .int .i64 a, .int .i64 u, .bool y, .int .i64 er] 31) = W1 := ⟨_, rfl⟩
  have l1 : Lies W1 w.heap.size 31 (Ev.c ⟨k, ww, o, hn, hg, nn, ng, t, a, u, y, er⟩) := by rw [← hW1]; exact Lies.new _ _ _
  have b1 : Below w.heap.size w W1 := by rw [← hW1]; exact (Below.refl _ _).alloc (Nat.le_refl _) _
  have cR := hR W1 (hT.keep b1)
  show Calls Tryd.prog 11 #[.agg #[.int .i64 k, .int .i64 ww, .int .i64 o, .int .i64 hn, .int .i64 hg, .int .i64 nn, .int .i64 ng, .int .i64 t, .int .i64 a, .int .i64 u, .bool y, .int .i64 er]] w _
  clear hrr hR
  cases rr with
  | false =>
    obtain ⟨f0, f1, f2, f3, f4, f5, f6, f7, f8, f9, fa, fbb⟩ := cellsY l1
    have HX := Lib.hid hx
    clear hx hfl l1
    rw [if_neg (by decide)]
    go_enter Tryd.func11, Tryd.ntmps11
    go_upto_region 1 with (fail)
    try rw [hW1]
    clear hW1
    go_wp2_with fail
    refine (show Calls Tryd.prog 8 #[.agg (Ev.c ⟨k, ww, o, hn, hg, nn, ng, t, a, u, y, er⟩)] _ _ from cR).mono ?_
    rintro e w2 ⟨rfl, b2⟩
    go_wp2_with fail
    go_ret
    exact ⟨rfl, b1.trans (b2.mono b1.size)⟩
  | true =>
    have hin := Ev.fl_in (hfl rfl)
    have hin : 0 ≤ k ∧ k ≤ 5 ∧ 0 ≤ o ∧ o ≤ 7 := hin
    obtain ⟨kk, rfl⟩ := Int.eq_ofNat_of_zero_le hin.1
    obtain ⟨oo, rfl⟩ := Int.eq_ofNat_of_zero_le hin.2.2.1
    have hkk : kk < 6 := by omega
    have hoo : oo < 8 := by omega
    have hk' : (kk : Int) < 6 := by omega
    have ho' : (oo : Int) < 8 := by omega
    rw [if_pos rfl]
    have hF := fun W h => fields_any ⟨(kk : Nat), ww, (oo : Nat), hn, hg, nn, ng, t, a, u, y, er⟩ W h
    obtain ⟨l, hl⟩ : ∃ l, Ev.fl ⟨(kk : Nat), ww, (oo : Nat), hn, hg, nn, ng, t, a, u, y, er⟩ = l := ⟨_, rfl⟩
    rw [hl] at hF
    rw [hl]
    have HW := Lib.hid (HWO.out (show ((kk : Nat) : Int).toNat < 6 by omega) (show ((oo : Nat) : Int).toNat < 8 by omega) l)
    have hx' : Ev.Ok ⟨(kk : Nat), ww, (oo : Nat), hn, hg, nn, ng, t, a, u, y, er⟩ := hx
    clear hin hfl hl HWO hx
    obtain ⟨wd, hwd⟩ : ∃ wd, words ⟨(kk : Nat), ww, (oo : Nat), hn, hg, nn, ng, t, a, u, y, er⟩ l = wd := ⟨_, rfl⟩
    rw [hwd] at HW
    rw [hwd]
    have HWD : Hid (words ⟨(kk : Nat), ww, (oo : Nat), hn, hg, nn, ng, t, a, u, y, er⟩ l = wd) := Lib.hid hwd
    have hx := Lib.hid hx'
    clear hwd hx'
    obtain ⟨f0, f1, f2, f3, f4, f5, f6, f7, f8, f9, fa, fbb⟩ := cellsY l1
    have HW1 := Lib.hid hW1
    have hmf := mkf_run
    clear hW1
    go_enter Tryd.func11, Tryd.ntmps11
    go_upto_region 1 with (fail)
    try rw [HW1.out]
    clear HW1
    go_wp2_with fail
    refine (show Calls Tryd.prog 8 #[.agg (Ev.c ⟨(kk : Nat), ww, (oo : Nat), hn, hg, nn, ng, t, a, u, y, er⟩)] _ _ from cR).mono ?_
    rintro e w2 ⟨rfl, b2⟩
    have l1 := l1.below b2 l1.lt
    have b1 := b1.trans (b2.mono b1.size)
    clear f0 f1 f2 f3 f4 f5 f6 f7 f8 f9 fa fbb cR b2
    obtain ⟨f0, f1, f2, f3, f4, f5, f6, f7, f8, f9, fa, fbb⟩ := cellsY l1
    go_wp2_with fail
    refine (show Calls Tryd.prog 19 #[.agg (Ev.c ⟨(kk : Nat), ww, (oo : Nat), hn, hg, nn, ng, t, a, u, y, er⟩)] _ _ from hF _ (hT.keep b1)).mono ?_
    rintro e w3 ⟨rfl, b3⟩
    have l1 := l1.below b3 l1.lt
    have b1 := b1.trans (b3.mono b1.size)
    clear f0 f1 f2 f3 f4 f5 f6 f7 f8 f9 fa fbb hF b3
    obtain ⟨hb, hhb⟩ : ∃ hb, w3.heap.size = hb := ⟨_, rfl⟩
    obtain ⟨lb, hlb⟩ : ∃ lb, hb + 1 + 1 = lb := ⟨_, rfl⟩
    obtain ⟨kn, hkn⟩ : ∃ kn, kN.getD kk [] = kn := ⟨_, rfl⟩
    obtain ⟨W4, hW4⟩ : ∃ W4, ((w3.alloc (.cells #[.int .u16 l] 49)).alloc (.cells #[tx kn] 9)).alloc (.cells #[.slice (some ⟨hb + 1, 0, none⟩) 1 1] 47) = W4 := ⟨_, rfl⟩
    have hL : Ln w ⟨(kk : Nat), ww, (oo : Nat), hn, hg, nn, ng, t, a, u, y, er⟩ hb lb l (.slice (some ⟨hb + 1, 0, none⟩) 1 1) [kn] 1 W4 := by
      have k4 : Turns [] w3 W4 := by rw [← hW4]; exact (((Turns.refl _ _).alloc _).alloc _).alloc _
      have h0 := b1.size
      refine ⟨Nat.le_refl _, ⟨?_, ?_, ⟨rfl, .inr ⟨hb + 1, 1, #[tx kn], rfl, by omega, ?_, Nat.le_refl _, by simp only [maxLen]; simp, rfl, rfl⟩⟩⟩, l1.turn k4 (by simp), b1.trans (k4.below (by simp) h0)⟩
      · rw [← hW4, ← hhb]; exact ((Lies.new _ _ _).alloc _).alloc _
      · rw [← hW4, ← hlb, ← hhb]; exact Lies.new_of _ _ (by simp)
      · rw [← hW4, ← hhb]; exact (Lies.new_of _ _ (by simp)).alloc _
    have hB : w.heap.size ≤ lb := by have := b1.size; omega
    have c3 : w3.cell? ⟨gKinds, kk, none⟩ = some (tx kn) := by rw [← hkn]; exact (hT.keep b1).kn kk hkk
    have lt3 : gKinds < w3.heap.size := Nat.lt_of_lt_of_le (by decide) (hT.keep b1).lt
    have c4 : (w3.alloc (.cells #[.int .u16 l] 49)).cell? ⟨gKinds, kk, none⟩ = some (tx kn) := (((Turns.refl [] w3).alloc _).cell (p := ⟨gKinds, kk, none⟩) lt3 (by simp)).trans c3
    have l4 : Lies (w3.alloc (.cells #[.int .u16 l] 49)) w.heap.size 31 (Ev.c ⟨(kk : Nat), ww, (oo : Nat), hn, hg, nn, ng, t, a, u, y, er⟩) := l1.alloc _
    obtain ⟨f0, f1, f2, f3, f4, f5, f6, f7, f8, f9, fa, fbb⟩ := cellsY l4
    have HW4 := Lib.hid hW4
    have HKN := Lib.hid hkn
    have HLB := Lib.hid hlb
    clear hW4 hkn c3 lt3 l1 l4 hlb
    go_upto_region 6 with (fail)
    try rw [hhb]
    try rw [HLB.out]
    try rw [HW4.out]
    clear HW4 hhb
    clear f0 f1 f2 f3 f4 f5 f6 f7 f8 f9 fa fbb c4
    obtain ⟨f0, f1, f2, f3, f4, f5, f6, f7, f8, f9, fa, fbb⟩ := cellsY hL.ev
    go_wp2_with fail
    refine (itoa_any ww hx.out.w.1 hx.out.w.2 _ (hT.keep hL.be)).mono ?_
    rintro e w2 ⟨rfl, bb⟩
    have hL := hL.below bb
    clear f0 f1 f2 f3 f4 f5 f6 f7 f8 f9 fa fbb
    obtain ⟨f0, f1, f2, f3, f4, f5, f6, f7, f8, f9, fa, fbb⟩ := cellsY hL.ev
    go_wp2_with fail
    refine (show Calls Tryd.prog 24 #[.int .u16 1, tx (Lib.itoa ww), .pointer (some ⟨hb, 0, none⟩), .pointer (some ⟨lb, 0, none⟩)] _ _ from hL.says hB 1 (Lib.itoa ww) (by decide)).mono ?_
    rintro e w3 ⟨⟨un, rfl⟩, v9, hL⟩
    clear f0 f1 f2 f3 f4 f5 f6 f7 f8 f9 fa fbb
    obtain ⟨f0, f1, f2, f3, f4, f5, f6, f7, f8, f9, fa, fbb⟩ := cellsY hL.ev
    have cO := (hT.keep hL.be).on oo hoo
    have cO : _ = some (tx (oN.getD oo [])) := cO
    go_wp2_with fail
    refine (show Calls Tryd.prog 24 #[.int .u16 2, tx (oN.getD oo []), .pointer (some ⟨hb, 0, none⟩), .pointer (some ⟨lb, 0, none⟩)] _ _ from hL.says hB 2 (oN.getD oo []) (by decide)).mono ?_
    rintro e w3 ⟨⟨un, rfl⟩, v9, hL⟩
    clear f0 f1 f2 f3 f4 f5 f6 f7 f8 f9 fa fbb
    obtain ⟨f0, f1, f2, f3, f4, f5, f6, f7, f8, f9, fa, fbb⟩ := cellsY hL.ev
    go_wp2_with fail
    refine (show Calls Tryd.prog 26 #[.agg #[.int .i64 hn, .int .i64 hg]] _ _ from handle_any hn hg hx.out.hn hx.out.hg _ (hT.keep hL.be)).mono ?_
    rintro e w2 ⟨rfl, bb⟩
    have hL := hL.below bb
    clear f0 f1 f2 f3 f4 f5 f6 f7 f8 f9 fa fbb
    obtain ⟨f0, f1, f2, f3, f4, f5, f6, f7, f8, f9, fa, fbb⟩ := cellsY hL.ev
    go_wp2_with fail
    refine (show Calls Tryd.prog 24 #[.int .u16 4, tx (hdT hn hg), .pointer (some ⟨hb, 0, none⟩), .pointer (some ⟨lb, 0, none⟩)] _ _ from hL.says hB 4 (hdT hn hg) (by decide)).mono ?_
    rintro e w3 ⟨⟨un, rfl⟩, v9, hL⟩
    clear f0 f1 f2 f3 f4 f5 f6 f7 f8 f9 fa fbb
    obtain ⟨f0, f1, f2, f3, f4, f5, f6, f7, f8, f9, fa, fbb⟩ := cellsY hL.ev
    go_wp2_with fail
    refine (show Calls Tryd.prog 26 #[.agg #[.int .i64 nn, .int .i64 ng]] _ _ from handle_any nn ng hx.out.nn hx.out.ng _ (hT.keep hL.be)).mono ?_
    rintro e w2 ⟨rfl, bb⟩
    have hL := hL.below bb
    clear f0 f1 f2 f3 f4 f5 f6 f7 f8 f9 fa fbb
    obtain ⟨f0, f1, f2, f3, f4, f5, f6, f7, f8, f9, fa, fbb⟩ := cellsY hL.ev
    go_wp2_with fail
    refine (show Calls Tryd.prog 24 #[.int .u16 8, tx (hdT nn ng), .pointer (some ⟨hb, 0, none⟩), .pointer (some ⟨lb, 0, none⟩)] _ _ from hL.says hB 8 (hdT nn ng) (by decide)).mono ?_
    rintro e w3 ⟨⟨un, rfl⟩, v9, hL⟩
    clear f0 f1 f2 f3 f4 f5 f6 f7 f8 f9 fa fbb
    obtain ⟨f0, f1, f2, f3, f4, f5, f6, f7, f8, f9, fa, fbb⟩ := cellsY hL.ev
    go_wp2_with fail
    refine (itoa_any t hx.out.t.1 hx.out.t.2 _ (hT.keep hL.be)).mono ?_
    rintro e w2 ⟨rfl, bb⟩
    have hL := hL.below bb
    clear f0 f1 f2 f3 f4 f5 f6 f7 f8 f9 fa fbb
    obtain ⟨f0, f1, f2, f3, f4, f5, f6, f7, f8, f9, fa, fbb⟩ := cellsY hL.ev
    go_wp2_with fail
    refine (show Calls Tryd.prog 24 #[.int .u16 16, tx (Lib.itoa t), .pointer (some ⟨hb, 0, none⟩), .pointer (some ⟨lb, 0, none⟩)] _ _ from hL.says hB 16 (Lib.itoa t) (by decide)).mono ?_
    rintro e w3 ⟨⟨un, rfl⟩, v9, hL⟩
    clear f0 f1 f2 f3 f4 f5 f6 f7 f8 f9 fa fbb
    obtain ⟨f0, f1, f2, f3, f4, f5, f6, f7, f8, f9, fa, fbb⟩ := cellsY hL.ev
    go_wp2_with fail
    refine (itoa_any a hx.out.a.1 hx.out.a.2 _ (hT.keep hL.be)).mono ?_
    rintro e w2 ⟨rfl, bb⟩
    have hL := hL.below bb
    clear f0 f1 f2 f3 f4 f5 f6 f7 f8 f9 fa fbb
    obtain ⟨f0, f1, f2, f3, f4, f5, f6, f7, f8, f9, fa, fbb⟩ := cellsY hL.ev
    go_wp2_with fail
    refine (show Calls Tryd.prog 24 #[.int .u16 32, tx (Lib.itoa a), .pointer (some ⟨hb, 0, none⟩), .pointer (some ⟨lb, 0, none⟩)] _ _ from hL.says hB 32 (Lib.itoa a) (by decide)).mono ?_
    rintro e w3 ⟨⟨un, rfl⟩, v9, hL⟩
    clear f0 f1 f2 f3 f4 f5 f6 f7 f8 f9 fa fbb
    obtain ⟨f0, f1, f2, f3, f4, f5, f6, f7, f8, f9, fa, fbb⟩ := cellsY hL.ev
    go_wp2_with fail
    refine (itoa_any u hx.out.u.1 hx.out.u.2 _ (hT.keep hL.be)).mono ?_
    rintro e w2 ⟨rfl, bb⟩
    have hL := hL.below bb
    clear f0 f1 f2 f3 f4 f5 f6 f7 f8 f9 fa fbb
    obtain ⟨f0, f1, f2, f3, f4, f5, f6, f7, f8, f9, fa, fbb⟩ := cellsY hL.ev
    go_wp2_with fail
    refine (show Calls Tryd.prog 24 #[.int .u16 64, tx (Lib.itoa u), .pointer (some ⟨hb, 0, none⟩), .pointer (some ⟨lb, 0, none⟩)] _ _ from hL.says hB 64 (Lib.itoa u) (by decide)).mono ?_
    rintro e w3 ⟨⟨un, rfl⟩, v9, hL⟩
    clear f0 f1 f2 f3 f4 f5 f6 f7 f8 f9 fa fbb
    obtain ⟨f0, f1, f2, f3, f4, f5, f6, f7, f8, f9, fa, fbb⟩ := cellsY hL.ev
    go_wp2_with fail
    refine (yes_any y _).mono ?_
    rintro e w2 ⟨rfl, rfl⟩
    go_wp2_with fail
    refine (show Calls Tryd.prog 24 #[.int .u16 128, tx (ysT y), .pointer (some ⟨hb, 0, none⟩), .pointer (some ⟨lb, 0, none⟩)] _ _ from hL.says hB 128 (ysT y) (by decide)).mono ?_
    rintro e w3 ⟨⟨un, rfl⟩, v9, hL⟩
    clear f0 f1 f2 f3 f4 f5 f6 f7 f8 f9 fa fbb
    obtain ⟨f0, f1, f2, f3, f4, f5, f6, f7, f8, f9, fa, fbb⟩ := cellsY hL.ev
    go_wp2_with fail
    refine (itoa_any er hx.out.e.1 hx.out.e.2 _ (hT.keep hL.be)).mono ?_
    rintro e w2 ⟨rfl, bb⟩
    have hL := hL.below bb
    clear f0 f1 f2 f3 f4 f5 f6 f7 f8 f9 fa fbb
    obtain ⟨f0, f1, f2, f3, f4, f5, f6, f7, f8, f9, fa, fbb⟩ := cellsY hL.ev
    go_wp2_with fail
    refine (show Calls Tryd.prog 24 #[.int .u16 256, tx (Lib.itoa er), .pointer (some ⟨hb, 0, none⟩), .pointer (some ⟨lb, 0, none⟩)] _ _ from hL.says hB 256 (Lib.itoa er) (by decide)).mono ?_
    rintro e w3 ⟨⟨un, rfl⟩, v9, hL⟩
    clear f0 f1 f2 f3 f4 f5 f6 f7 f8 f9 fa fbb
    obtain ⟨f0, f1, f2, f3, f4, f5, f6, f7, f8, f9, fa, fbb⟩ := cellsY hL.ev
    have hwd : [kn] ++ pc (fb l 1) (Lib.itoa ww) ++ pc (fb l 2) (oN.getD oo []) ++ pc (fb l 4) (hdT hn hg) ++ pc (fb l 8) (hdT nn ng) ++ pc (fb l 16) (Lib.itoa t) ++ pc (fb l 32) (Lib.itoa a) ++ pc (fb l 64) (Lib.itoa u) ++ pc (fb l 128) (ysT y) ++ pc (fb l 256) (Lib.itoa er) = wd := by
      rw [← HWD.out, ← HKN.out]
      rfl
    rw [hwd] at hL
    have cL : _ = some v9 := hL.sy.lst.cell 0
    have cJ := join_any hL.sy.row HW.out.2.2 (by have := HW.out.2.1; omega) HW.out.1
    have bE := hL.be
    clear hL hwd
    go_wp2_with fail
    refine cJ.mono ?_
    rintro e w5 ⟨rfl, b5⟩
    go_wp2_with fail
    go_ret
    exact ⟨rfl, bE.trans (b5.mono bE.size)⟩

end Go.Proofs.YtiaknnhfbfoeiaaDoor
