/- Events, the document's: an event as a text. -/
import Derived.Test.YtiaknnhfbfoeiaaDoorE9
import Derived.Test.YtiaknnhfbfoeiaaDoorE12
namespace Go.Proofs.YtiaknnhfbfoeiaaDoor
open Go.RowKit Go.ChangeShapes Go.WideShapes
set_option maxRecDepth 100000

def pz (b : Bool) (s : List UInt8) : List UInt8 := if b then 32 :: s else []
theorem pz_len (b : Bool) (s : List UInt8) : (pz b s).length ≤ s.length + 1 := by cases b <;> simp [pz]
theorem kN_cell (w : World) (kk : Nat) (hkk : kk < 6) : (w.alloc (.cells #[.string ⟨#[]⟩, .string ⟨#[116, 105, 99, 107]⟩, .string ⟨#[105, 110, 118, 111, 107, 101]⟩, .string ⟨#[112, 111, 105, 110, 116]⟩, .string ⟨#[102, 105, 114, 101]⟩, .string ⟨#[114, 101, 116, 117, 114, 110]⟩] 9)).cell? ⟨w.heap.size, kk, none⟩ = some (.string ⟨(kN.getD kk []).toArray⟩) := by
  have l := (Lies.new w 9 #[.string ⟨#[]⟩, .string ⟨#[116, 105, 99, 107]⟩, .string ⟨#[105, 110, 118, 111, 107, 101]⟩, .string ⟨#[112, 111, 105, 110, 116]⟩, .string ⟨#[102, 105, 114, 101]⟩, .string ⟨#[114, 101, 116, 117, 114, 110]⟩]).cell kk
  rw [l]
  match kk, hkk with
  | 0, _ | 1, _ | 2, _ | 3, _ | 4, _ | 5, _ => rfl
theorem oN_cell (w : World) (oo : Nat) (hoo : oo < 8) : (w.alloc (.cells #[.string ⟨#[]⟩, .string ⟨#[115, 116, 97, 114, 116]⟩, .string ⟨#[99, 97, 110, 99, 101, 108]⟩, .string ⟨#[114, 101, 97, 114, 109]⟩, .string ⟨#[109, 105, 103, 114, 97, 116, 101]⟩, .string ⟨#[97, 100, 118, 97, 110, 99, 101]⟩, .string ⟨#[110, 101, 120, 116]⟩, .string ⟨#[112, 101, 101, 107]⟩] 9)).cell? ⟨w.heap.size, oo, none⟩ = some (.string ⟨(oN.getD oo []).toArray⟩) := by
  have l := (Lies.new w 9 #[.string ⟨#[]⟩, .string ⟨#[115, 116, 97, 114, 116]⟩, .string ⟨#[99, 97, 110, 99, 101, 108]⟩, .string ⟨#[114, 101, 97, 114, 109]⟩, .string ⟨#[109, 105, 103, 114, 97, 116, 101]⟩, .string ⟨#[97, 100, 118, 97, 110, 99, 101]⟩, .string ⟨#[110, 101, 120, 116]⟩, .string ⟨#[112, 101, 101, 107]⟩]).cell oo
  rw [l]
  match oo, hoo with
  | 0, _ | 1, _ | 2, _ | 3, _ | 4, _ | 5, _ | 6, _ | 7, _ => rfl
theorem oN_len (oo : Nat) (h : oo < 8) : (oN.getD oo []).length ≤ 100 := by
  have h1 : ∀ i, i < 8 → (oN.getD i []).length ≤ 100 := by decide
  exact h1 _ h
def lineR0 (x : Ev) : List UInt8 := kN.getD x.k.toNat [] ++ pz (x.k != 1) (Lib.itoa x.w) ++ pz (decide (0 < x.o)) (oN.getD x.o.toNat []) ++ pz (hasH x) (hdT x.hn x.hg) ++ pz (hasN x) (hdT x.nn x.ng) ++ pz (hasT x) (Lib.itoa x.t) ++ pz (hasA x) (Lib.itoa x.a) ++ pz (hasU x) (Lib.itoa x.u) ++ pz (hasY x) (ysT x.y) ++ pz (hasE x) (Lib.itoa x.e)
def lineR (x : Ev) : List UInt8 := if rightR x then lineR0 x else []
theorem kind_in {x : Ev} (h : rightR x = true) : 1 ≤ x.k ∧ x.k ≤ 5 ∧ 0 ≤ x.o ∧ x.o ≤ 7 := by
  unfold rightR at h
  simp only [Bool.and_eq_true] at h
  have hk := h.1.1.1.1
  unfold kindB at hk
  simp at hk
  omega

set_option maxHeartbeats 16000000 in
theorem refline_any (x : Ev) (hx : x.Ok) (w : World) : Calls Tryd.prog 12 #[.agg x.c] w fun e w' => e = .returned (tx (lineR x)) ∧ Below w.heap.size w w' := by
  have hR := fun W => refright_any x W
  unfold lineR
  obtain ⟨rr, hrr⟩ : ∃ rr, rightR x = rr := ⟨_, rfl⟩
  have hin := fun e : rr = true => kind_in (x := x) (by rw [hrr]; exact e)
  rw [hrr] at hR
  rw [hrr]
  obtain ⟨k, ww, o, hn, hg, nn, ng, t, a, u, y, er⟩ := x
  obtain ⟨W1, hW1⟩ : ∃ W1, w.alloc (.cells #[.int .i64 k, .int .i64 ww, .int .i64 o, .int .i64 hn, .int .i64 hg, .int .i64 nn, .int .i64 ng, .int .i64 t, .int .i64 a, .int .i64 u, .bool y, .int .i64 er] 25) = W1 := ⟨_, rfl⟩
  have l1 : Lies W1 w.heap.size 25 (Ev.c ⟨k, ww, o, hn, hg, nn, ng, t, a, u, y, er⟩) := by rw [← hW1]; exact Lies.new _ _ _
  have bW : Below w.heap.size w W1 := by rw [← hW1]; exact (Below.refl _ _).alloc (Nat.le_refl _) _
  have cR := hR W1
  show Calls Tryd.prog 12 #[.agg #[.int .i64 k, .int .i64 ww, .int .i64 o, .int .i64 hn, .int .i64 hg, .int .i64 nn, .int .i64 ng, .int .i64 t, .int .i64 a, .int .i64 u, .bool y, .int .i64 er]] w _
  have HW1 := Lib.hid hW1
  clear hrr hR hW1
  cases rr with
  | false =>
    obtain ⟨f0, f1, f2, f3, f4, f5, f6, f7, f8, f9, fa, fbb⟩ := cellsX l1
    have HX := Lib.hid hx
    clear hx hin l1
    rw [if_neg (by decide)]
    go_enter Tryd.func12, Tryd.ntmps12
    go_upto_region 1 with (fail)
    try rw [HW1.out]
    clear HW1
    go_wp2_with fail
    refine (show Calls Tryd.prog 10 #[.agg (Ev.c ⟨k, ww, o, hn, hg, nn, ng, t, a, u, y, er⟩)] _ _ from cR).mono ?_
    rintro e w2 ⟨rfl, b2⟩
    go_wp2_with fail
    go_ret
    exact ⟨rfl, bW.trans (b2.mono bW.size)⟩
  | true =>
    have hin := hin rfl
    have hin : 1 ≤ k ∧ k ≤ 5 ∧ 0 ≤ o ∧ o ≤ 7 := hin
    obtain ⟨kk, rfl⟩ := Int.eq_ofNat_of_zero_le (show 0 ≤ k by omega)
    obtain ⟨oo, rfl⟩ := Int.eq_ofNat_of_zero_le hin.2.2.1
    have hkk : kk < 6 := by omega
    have hoo : oo < 8 := by omega
    have hk' : (kk : Int) < 6 := by omega
    have ho' : (oo : Int) < 8 := by omega
    rw [if_pos rfl]
    unfold lineR0
    have hx' : Ev.Ok ⟨(kk : Nat), ww, (oo : Nat), hn, hg, nn, ng, t, a, u, y, er⟩ := hx
    obtain ⟨bh, bhh⟩ : ∃ b, hasH ⟨(kk : Nat), ww, (oo : Nat), hn, hg, nn, ng, t, a, u, y, er⟩ = b := ⟨_, rfl⟩
    obtain ⟨bn, bnh⟩ : ∃ b, hasN ⟨(kk : Nat), ww, (oo : Nat), hn, hg, nn, ng, t, a, u, y, er⟩ = b := ⟨_, rfl⟩
    obtain ⟨bt, bth⟩ : ∃ b, hasT ⟨(kk : Nat), ww, (oo : Nat), hn, hg, nn, ng, t, a, u, y, er⟩ = b := ⟨_, rfl⟩
    obtain ⟨ba, bah⟩ : ∃ b, hasA ⟨(kk : Nat), ww, (oo : Nat), hn, hg, nn, ng, t, a, u, y, er⟩ = b := ⟨_, rfl⟩
    obtain ⟨bu, buh⟩ : ∃ b, hasU ⟨(kk : Nat), ww, (oo : Nat), hn, hg, nn, ng, t, a, u, y, er⟩ = b := ⟨_, rfl⟩
    obtain ⟨by_, by_h⟩ : ∃ b, hasY ⟨(kk : Nat), ww, (oo : Nat), hn, hg, nn, ng, t, a, u, y, er⟩ = b := ⟨_, rfl⟩
    obtain ⟨be, beh⟩ : ∃ b, hasE ⟨(kk : Nat), ww, (oo : Nat), hn, hg, nn, ng, t, a, u, y, er⟩ = b := ⟨_, rfl⟩
    have cH : ∀ W, Calls Tryd.prog 30 #[.agg (Ev.c ⟨(kk : Nat), ww, (oo : Nat), hn, hg, nn, ng, t, a, u, y, er⟩), .int .u8 104] W fun e w' => e = .returned (.bool bh) ∧ Below W.heap.size W w' := fun W => by rw [← bhh]; exact hasH_any ⟨(kk : Nat), ww, (oo : Nat), hn, hg, nn, ng, t, a, u, y, er⟩ W
    have cN : ∀ W, Calls Tryd.prog 30 #[.agg (Ev.c ⟨(kk : Nat), ww, (oo : Nat), hn, hg, nn, ng, t, a, u, y, er⟩), .int .u8 110] W fun e w' => e = .returned (.bool bn) ∧ Below W.heap.size W w' := fun W => by rw [← bnh]; exact hasN_any ⟨(kk : Nat), ww, (oo : Nat), hn, hg, nn, ng, t, a, u, y, er⟩ W
    have cT : ∀ W, Calls Tryd.prog 30 #[.agg (Ev.c ⟨(kk : Nat), ww, (oo : Nat), hn, hg, nn, ng, t, a, u, y, er⟩), .int .u8 116] W fun e w' => e = .returned (.bool bt) ∧ Below W.heap.size W w' := fun W => by rw [← bth]; exact hasT_any ⟨(kk : Nat), ww, (oo : Nat), hn, hg, nn, ng, t, a, u, y, er⟩ W
    have cA : ∀ W, Calls Tryd.prog 30 #[.agg (Ev.c ⟨(kk : Nat), ww, (oo : Nat), hn, hg, nn, ng, t, a, u, y, er⟩), .int .u8 97] W fun e w' => e = .returned (.bool ba) ∧ Below W.heap.size W w' := fun W => by rw [← bah]; exact hasA_any ⟨(kk : Nat), ww, (oo : Nat), hn, hg, nn, ng, t, a, u, y, er⟩ W
    have cU : ∀ W, Calls Tryd.prog 30 #[.agg (Ev.c ⟨(kk : Nat), ww, (oo : Nat), hn, hg, nn, ng, t, a, u, y, er⟩), .int .u8 117] W fun e w' => e = .returned (.bool bu) ∧ Below W.heap.size W w' := fun W => by rw [← buh]; exact hasU_any ⟨(kk : Nat), ww, (oo : Nat), hn, hg, nn, ng, t, a, u, y, er⟩ W
    have cY : ∀ W, Calls Tryd.prog 30 #[.agg (Ev.c ⟨(kk : Nat), ww, (oo : Nat), hn, hg, nn, ng, t, a, u, y, er⟩), .int .u8 121] W fun e w' => e = .returned (.bool by_) ∧ Below W.heap.size W w' := fun W => by rw [← by_h]; exact hasY_any ⟨(kk : Nat), ww, (oo : Nat), hn, hg, nn, ng, t, a, u, y, er⟩ W
    have cE : ∀ W, Calls Tryd.prog 30 #[.agg (Ev.c ⟨(kk : Nat), ww, (oo : Nat), hn, hg, nn, ng, t, a, u, y, er⟩), .int .u8 101] W fun e w' => e = .returned (.bool be) ∧ Below W.heap.size W w' := fun W => by rw [← beh]; exact hasE_any ⟨(kk : Nat), ww, (oo : Nat), hn, hg, nn, ng, t, a, u, y, er⟩ W
    rw [bhh, bnh, bth, bah, buh, by_h, beh]
    dsimp only
    clear bhh bnh bth bah buh by_h beh hin hx
    obtain ⟨rl, hrl⟩ : ∃ rl, kN.getD ((kk : Nat) : Int).toNat [] ++ pz (((kk : Nat) : Int) != 1) (Lib.itoa ww) ++ pz (decide (0 < ((oo : Nat) : Int))) (oN.getD ((oo : Nat) : Int).toNat []) ++ pz bh (hdT hn hg) ++ pz bn (hdT nn ng) ++ pz bt (Lib.itoa t) ++ pz ba (Lib.itoa a) ++ pz bu (Lib.itoa u) ++ pz by_ (ysT y) ++ pz be (Lib.itoa er) = rl := ⟨_, rfl⟩
    rw [hrl]
    have HRL := Lib.hid hrl
    have hx := Lib.hid hx'
    clear hx' hrl
    obtain ⟨f0, f1, f2, f3, f4, f5, f6, f7, f8, f9, fa, fbb⟩ := cellsX l1
    go_enter Tryd.func12, Tryd.ntmps12
    go_upto_region 1 with (fail)
    try rw [HW1.out]
    clear HW1
    go_wp2_with fail
    refine (show Calls Tryd.prog 10 #[.agg (Ev.c ⟨(kk : Nat), ww, (oo : Nat), hn, hg, nn, ng, t, a, u, y, er⟩)] _ _ from cR).mono ?_
    rintro e w2 ⟨rfl, b2⟩
    have l1 := l1.below b2 l1.lt
    have bW := bW.trans (b2.mono bW.size)
    clear f0 f1 f2 f3 f4 f5 f6 f7 f8 f9 fa fbb cR b2
    obtain ⟨W2, hW2⟩ : ∃ W2, w2.alloc (.cells #[.string ⟨#[]⟩, .string ⟨#[116, 105, 99, 107]⟩, .string ⟨#[105, 110, 118, 111, 107, 101]⟩, .string ⟨#[112, 111, 105, 110, 116]⟩, .string ⟨#[102, 105, 114, 101]⟩, .string ⟨#[114, 101, 116, 117, 114, 110]⟩] 9) = W2 := ⟨_, rfl⟩
    have bx : Below w2.heap.size w2 W2 := by rw [← hW2]; exact (Below.refl _ _).alloc (Nat.le_refl _) _
    obtain ⟨S0, hS0⟩ : ∃ S0, kN.getD kk [] = S0 := ⟨_, rfl⟩
    have cK : W2.cell? ⟨w2.heap.size, kk, none⟩ = some (.string ⟨S0.toArray⟩) := by
      rw [← hS0, ← hW2]
      exact kN_cell w2 kk hkk
    have sl0 : S0.length ≤ 200 := by
      rw [← hS0]
      have h : ∀ i, i < 6 → (kN.getD i []).length ≤ 200 := by decide
      exact h _ hkk
    have l1 := l1.below bx l1.lt
    have bW := bW.trans (bx.mono bW.size)
    have HS0 := Lib.hid hS0
    clear hS0 bx
    obtain ⟨f0, f1, f2, f3, f4, f5, f6, f7, f8, f9, fa, fbb⟩ := cellsX l1
    go_upto_if 14 with (fail)
    try rw [hW2]
    clear cK hW2
    have PL : (Lib.itoa ww).length ≤ 100 := Nat.le_trans (itoa_len hx.out.w.1 hx.out.w.2) (by decide)
    obtain ⟨PP0, hPP0⟩ : ∃ PP0, Lib.itoa ww = PP0 := ⟨_, rfl⟩
    rw [hPP0] at PL
    have HPP00 := Lib.hid hPP0
    clear hPP0
    have s1 : ¬ (9223372036854775807 < S0.length + 1) := by omega
    have s2 : ¬ (9223372036854775807 < S0.length + 1 + PP0.length) := by omega
    have HF : Hid (((⟨S0.toArray⟩ : ByteArray) ++ ⟨#[32]⟩ ++ ⟨PP0.toArray⟩) = ⟨(S0 ++ 32 :: PP0).toArray⟩) := Lib.hid (by rw [show (⟨#[32]⟩ : ByteArray) = ⟨([32] : List UInt8).toArray⟩ from rfl, ba_app, ba_app]; simp)
    have HZ : Hid (S0 ++ pz false PP0 = S0) := Lib.hid (by simp [pz])
    go_cut [3] (fun v wc => v = tx (S0 ++ pz ((kk : Int) != 1) (PP0)) ∧ Lies wc w.heap.size 25 (Ev.c ⟨(kk : Nat), ww, (oo : Nat), hn, hg, nn, ng, t, a, u, y, er⟩) ∧ Below w.heap.size w wc)
    case first =>
      by_cases hk1 : (kk : Int) = 1
      · have hb1 : ((kk : Int) != 1) = false := by simpa using hk1
        go_wp2_with fail
        go_meet
        case rel => exact ⟨by rw [hb1, HZ.out], l1, bW⟩
      · have hb1 : ((kk : Int) != 1) = true := by simpa using hk1
        have cP : ∀ W, Calls Tryd.prog 29 #[.int .i64 ww] W fun e w' => e = .returned (tx PP0) ∧ Below W.heap.size W w' := fun W => by rw [← HPP00.out]; exact decimal_any _ ww (Nat.lt_succ_self _) hx.out.w.1 hx.out.w.2 W
        go_wp2_with fail
        refine (cP _).mono ?_
        rintro e wn ⟨rfl, bb⟩
        have l1 := l1.below bb l1.lt
        have bW := bW.trans (bb.mono bW.size)
        clear f0 f1 f2 f3 f4 f5 f6 f7 f8 f9 fa fbb
        obtain ⟨f0, f1, f2, f3, f4, f5, f6, f7, f8, f9, fa, fbb⟩ := cellsX l1
        go_wp2_with fail
        go_meet
        case rel => exact ⟨by rw [hb1]; exact congrArg Value.string HF.out, l1, bW⟩
    case rest =>
      clear l1 bW f0 f1 f2 f3 f4 f5 f6 f7 f8 f9 fa fbb s1 s2 HF HZ
      obtain ⟨rfl, l1, bW⟩ := hcut
      obtain ⟨f0, f1, f2, f3, f4, f5, f6, f7, f8, f9, fa, fbb⟩ := cellsX l1
      obtain ⟨S1, hS'⟩ : ∃ S', S0 ++ pz ((kk : Int) != 1) PP0 = S' := ⟨_, rfl⟩
      have sl1 : S1.length ≤ 400 := by rw [← hS', List.length_append]; have := pz_len ((kk : Int) != 1) PP0; omega
      rw [hS']
      have HS1 := Lib.hid hS'
      clear hS' PL
      go_upto_if 23 with (fail)
      have PL : (oN.getD oo []).length ≤ 100 := oN_len oo hoo
      obtain ⟨PP1, hPP1⟩ : ∃ PP1, oN.getD oo [] = PP1 := ⟨_, rfl⟩
      rw [hPP1] at PL
      have HPP11 := Lib.hid hPP1
      clear hPP1
      have s1 : ¬ (9223372036854775807 < S1.length + 1) := by omega
      have s2 : ¬ (9223372036854775807 < S1.length + 1 + PP1.length) := by omega
      have HF : Hid (((⟨S1.toArray⟩ : ByteArray) ++ ⟨#[32]⟩ ++ ⟨PP1.toArray⟩) = ⟨(S1 ++ 32 :: PP1).toArray⟩) := Lib.hid (by rw [show (⟨#[32]⟩ : ByteArray) = ⟨([32] : List UInt8).toArray⟩ from rfl, ba_app, ba_app]; simp)
      have HZ : Hid (S1 ++ pz false PP1 = S1) := Lib.hid (by simp [pz])
      go_cut [3] (fun v wc => v = tx (S1 ++ pz (decide ((0 : Int) < oo)) (PP1)) ∧ Lies wc w.heap.size 25 (Ev.c ⟨(kk : Nat), ww, (oo : Nat), hn, hg, nn, ng, t, a, u, y, er⟩) ∧ Below w.heap.size w wc)
      case first =>
        by_cases ho1 : (0 : Int) < oo
        · have hb2 : decide ((0 : Int) < oo) = true := decide_eq_true ho1
          have hO : ∀ W : World, (W.alloc (.cells #[.string ⟨#[]⟩, .string ⟨#[115, 116, 97, 114, 116]⟩, .string ⟨#[99, 97, 110, 99, 101, 108]⟩, .string ⟨#[114, 101, 97, 114, 109]⟩, .string ⟨#[109, 105, 103, 114, 97, 116, 101]⟩, .string ⟨#[97, 100, 118, 97, 110, 99, 101]⟩, .string ⟨#[110, 101, 120, 116]⟩, .string ⟨#[112, 101, 101, 107]⟩] 9)).cell? ⟨W.heap.size, oo, none⟩ = some (.string ⟨PP1.toArray⟩) := fun W => by
            rw [← HPP11.out]
            exact oN_cell W oo hoo
          have bx : ∀ (W : World) (ob : Obj), Below W.heap.size W (W.alloc ob) := fun W ob => (Below.refl _ _).alloc (Nat.le_refl _) _
          obtain ⟨W9, hW9⟩ : ∃ W9, wc.alloc (.cells #[.string ⟨#[]⟩, .string ⟨#[115, 116, 97, 114, 116]⟩, .string ⟨#[99, 97, 110, 99, 101, 108]⟩, .string ⟨#[114, 101, 97, 114, 109]⟩, .string ⟨#[109, 105, 103, 114, 97, 116, 101]⟩, .string ⟨#[97, 100, 118, 97, 110, 99, 101]⟩, .string ⟨#[110, 101, 120, 116]⟩, .string ⟨#[112, 101, 101, 107]⟩] 9) = W9 := ⟨_, rfl⟩
          have cO : W9.cell? ⟨wc.heap.size, oo, none⟩ = some (.string ⟨PP1.toArray⟩) := by rw [← hW9]; exact hO wc
          have bx9 : Below wc.heap.size wc W9 := by rw [← hW9]; exact bx wc _
          have l2 := l1.below bx9 l1.lt
          have b2 := bW.trans (bx9.mono bW.size)
          have f2' : W9.cell? ⟨w.heap.size, 2, none⟩ = some (.int .i64 (oo : Nat)) := l2.cell 2
          clear hO bx
          go_wp2_with fail
          go_meet
          case rel => exact ⟨by rw [hb2]; exact congrArg Value.string HF.out, l2, b2⟩
        · have hb2 : decide ((0 : Int) < oo) = false := decide_eq_false ho1
          go_wp2_with fail
          go_meet
          case rel => exact ⟨by rw [hb2, HZ.out], l1, bW⟩
      case rest =>
        clear l1 bW f0 f1 f2 f3 f4 f5 f6 f7 f8 f9 fa fbb s1 s2 HF HZ
        obtain ⟨rfl, l1, bW⟩ := hcut
        obtain ⟨f0, f1, f2, f3, f4, f5, f6, f7, f8, f9, fa, fbb⟩ := cellsX l1
        obtain ⟨S2, hS'⟩ : ∃ S', S1 ++ pz (decide ((0 : Int) < oo)) PP1 = S' := ⟨_, rfl⟩
        have sl2 : S2.length ≤ 600 := by rw [← hS', List.length_append]; have := pz_len (decide ((0 : Int) < oo)) PP1; omega
        rw [hS']
        have HS2 := Lib.hid hS'
        clear hS' PL
        go_wp2_with fail
        refine (show Calls Tryd.prog 30 #[.agg (Ev.c ⟨(kk : Nat), ww, (oo : Nat), hn, hg, nn, ng, t, a, u, y, er⟩), .int .u8 104] _ _ from cH _).mono ?_
        rintro e wn ⟨rfl, bb⟩
        have l1 := l1.below bb l1.lt
        have bW := bW.trans (bb.mono bW.size)
        clear f0 f1 f2 f3 f4 f5 f6 f7 f8 f9 fa fbb
        obtain ⟨f0, f1, f2, f3, f4, f5, f6, f7, f8, f9, fa, fbb⟩ := cellsX l1
        go_upto_if 33 with (fail)
        have PL : (hdT hn hg).length ≤ 100 := by have h1 := itoa_len (n := hn) hx.out.hn.1 hx.out.hn.2; have h2 := itoa_len (n := hg) hx.out.hg.1 hx.out.hg.2; unfold hdT; simp only [List.length_append, List.length_cons, List.length_nil]; omega
        obtain ⟨PP2, hPP2⟩ : ∃ PP2, hdT hn hg = PP2 := ⟨_, rfl⟩
        rw [hPP2] at PL
        have HPP22 := Lib.hid hPP2
        clear hPP2
        have s1 : ¬ (9223372036854775807 < S2.length + 1) := by omega
        have s2 : ¬ (9223372036854775807 < S2.length + 1 + PP2.length) := by omega
        have HF : Hid (((⟨S2.toArray⟩ : ByteArray) ++ ⟨#[32]⟩ ++ ⟨PP2.toArray⟩) = ⟨(S2 ++ 32 :: PP2).toArray⟩) := Lib.hid (by rw [show (⟨#[32]⟩ : ByteArray) = ⟨([32] : List UInt8).toArray⟩ from rfl, ba_app, ba_app]; simp)
        have HZ : Hid (S2 ++ pz false PP2 = S2) := Lib.hid (by simp [pz])
        go_cut [3] (fun v wc => v = tx (S2 ++ pz (bh) (PP2)) ∧ Lies wc w.heap.size 25 (Ev.c ⟨(kk : Nat), ww, (oo : Nat), hn, hg, nn, ng, t, a, u, y, er⟩) ∧ Below w.heap.size w wc)
        case first =>
          cases bh with
          | false =>
            go_wp2_with fail
            go_meet
            case rel => exact ⟨by rw [HZ.out], l1, bW⟩
          | true =>
            have cP : ∀ W, Calls Tryd.prog 31 #[.agg #[.int .i64 hn, .int .i64 hg]] W fun e w' => e = .returned (tx PP2) ∧ Below W.heap.size W w' := fun W => by rw [← HPP22.out]; exact refhandle_any hn hg hx.out.hn hx.out.hg W
            go_wp2_with fail
            refine (cP _).mono ?_
            rintro e wn ⟨rfl, bb⟩
            have l1 := l1.below bb l1.lt
            have bW := bW.trans (bb.mono bW.size)
            clear f0 f1 f2 f3 f4 f5 f6 f7 f8 f9 fa fbb
            obtain ⟨f0, f1, f2, f3, f4, f5, f6, f7, f8, f9, fa, fbb⟩ := cellsX l1
            go_wp2_with fail
            go_meet
            case rel => exact ⟨congrArg Value.string HF.out, l1, bW⟩
        case rest =>
          clear l1 bW f0 f1 f2 f3 f4 f5 f6 f7 f8 f9 fa fbb s1 s2 HF HZ
          obtain ⟨rfl, l1, bW⟩ := hcut
          obtain ⟨f0, f1, f2, f3, f4, f5, f6, f7, f8, f9, fa, fbb⟩ := cellsX l1
          obtain ⟨S3, hS'⟩ : ∃ S', S2 ++ pz (bh) PP2 = S' := ⟨_, rfl⟩
          have sl3 : S3.length ≤ 800 := by rw [← hS', List.length_append]; have := pz_len (bh) PP2; omega
          rw [hS']
          have HS3 := Lib.hid hS'
          clear hS' PL
          go_wp2_with fail
          refine (show Calls Tryd.prog 30 #[.agg (Ev.c ⟨(kk : Nat), ww, (oo : Nat), hn, hg, nn, ng, t, a, u, y, er⟩), .int .u8 110] _ _ from cN _).mono ?_
          rintro e wn ⟨rfl, bb⟩
          have l1 := l1.below bb l1.lt
          have bW := bW.trans (bb.mono bW.size)
          clear f0 f1 f2 f3 f4 f5 f6 f7 f8 f9 fa fbb
          obtain ⟨f0, f1, f2, f3, f4, f5, f6, f7, f8, f9, fa, fbb⟩ := cellsX l1
          go_upto_if 41 with (fail)
          have PL : (hdT nn ng).length ≤ 100 := by have h1 := itoa_len (n := nn) hx.out.nn.1 hx.out.nn.2; have h2 := itoa_len (n := ng) hx.out.ng.1 hx.out.ng.2; unfold hdT; simp only [List.length_append, List.length_cons, List.length_nil]; omega
          obtain ⟨PP3, hPP3⟩ : ∃ PP3, hdT nn ng = PP3 := ⟨_, rfl⟩
          rw [hPP3] at PL
          have HPP33 := Lib.hid hPP3
          clear hPP3
          have s1 : ¬ (9223372036854775807 < S3.length + 1) := by omega
          have s2 : ¬ (9223372036854775807 < S3.length + 1 + PP3.length) := by omega
          have HF : Hid (((⟨S3.toArray⟩ : ByteArray) ++ ⟨#[32]⟩ ++ ⟨PP3.toArray⟩) = ⟨(S3 ++ 32 :: PP3).toArray⟩) := Lib.hid (by rw [show (⟨#[32]⟩ : ByteArray) = ⟨([32] : List UInt8).toArray⟩ from rfl, ba_app, ba_app]; simp)
          have HZ : Hid (S3 ++ pz false PP3 = S3) := Lib.hid (by simp [pz])
          go_cut [3] (fun v wc => v = tx (S3 ++ pz (bn) (PP3)) ∧ Lies wc w.heap.size 25 (Ev.c ⟨(kk : Nat), ww, (oo : Nat), hn, hg, nn, ng, t, a, u, y, er⟩) ∧ Below w.heap.size w wc)
          case first =>
            cases bn with
            | false =>
              go_wp2_with fail
              go_meet
              case rel => exact ⟨by rw [HZ.out], l1, bW⟩
            | true =>
              have cP : ∀ W, Calls Tryd.prog 31 #[.agg #[.int .i64 nn, .int .i64 ng]] W fun e w' => e = .returned (tx PP3) ∧ Below W.heap.size W w' := fun W => by rw [← HPP33.out]; exact refhandle_any nn ng hx.out.nn hx.out.ng W
              go_wp2_with fail
              refine (cP _).mono ?_
              rintro e wn ⟨rfl, bb⟩
              have l1 := l1.below bb l1.lt
              have bW := bW.trans (bb.mono bW.size)
              clear f0 f1 f2 f3 f4 f5 f6 f7 f8 f9 fa fbb
              obtain ⟨f0, f1, f2, f3, f4, f5, f6, f7, f8, f9, fa, fbb⟩ := cellsX l1
              go_wp2_with fail
              go_meet
              case rel => exact ⟨congrArg Value.string HF.out, l1, bW⟩
          case rest =>
            clear l1 bW f0 f1 f2 f3 f4 f5 f6 f7 f8 f9 fa fbb s1 s2 HF HZ
            obtain ⟨rfl, l1, bW⟩ := hcut
            obtain ⟨f0, f1, f2, f3, f4, f5, f6, f7, f8, f9, fa, fbb⟩ := cellsX l1
            obtain ⟨S4, hS'⟩ : ∃ S', S3 ++ pz (bn) PP3 = S' := ⟨_, rfl⟩
            have sl4 : S4.length ≤ 1000 := by rw [← hS', List.length_append]; have := pz_len (bn) PP3; omega
            rw [hS']
            have HS4 := Lib.hid hS'
            clear hS' PL
            go_wp2_with fail
            refine (show Calls Tryd.prog 30 #[.agg (Ev.c ⟨(kk : Nat), ww, (oo : Nat), hn, hg, nn, ng, t, a, u, y, er⟩), .int .u8 116] _ _ from cT _).mono ?_
            rintro e wn ⟨rfl, bb⟩
            have l1 := l1.below bb l1.lt
            have bW := bW.trans (bb.mono bW.size)
            clear f0 f1 f2 f3 f4 f5 f6 f7 f8 f9 fa fbb
            obtain ⟨f0, f1, f2, f3, f4, f5, f6, f7, f8, f9, fa, fbb⟩ := cellsX l1
            go_upto_if 49 with (fail)
            have PL : (Lib.itoa t).length ≤ 100 := Nat.le_trans (itoa_len hx.out.t.1 hx.out.t.2) (by decide)
            obtain ⟨PP4, hPP4⟩ : ∃ PP4, Lib.itoa t = PP4 := ⟨_, rfl⟩
            rw [hPP4] at PL
            have HPP44 := Lib.hid hPP4
            clear hPP4
            have s1 : ¬ (9223372036854775807 < S4.length + 1) := by omega
            have s2 : ¬ (9223372036854775807 < S4.length + 1 + PP4.length) := by omega
            have HF : Hid (((⟨S4.toArray⟩ : ByteArray) ++ ⟨#[32]⟩ ++ ⟨PP4.toArray⟩) = ⟨(S4 ++ 32 :: PP4).toArray⟩) := Lib.hid (by rw [show (⟨#[32]⟩ : ByteArray) = ⟨([32] : List UInt8).toArray⟩ from rfl, ba_app, ba_app]; simp)
            have HZ : Hid (S4 ++ pz false PP4 = S4) := Lib.hid (by simp [pz])
            go_cut [3] (fun v wc => v = tx (S4 ++ pz (bt) (PP4)) ∧ Lies wc w.heap.size 25 (Ev.c ⟨(kk : Nat), ww, (oo : Nat), hn, hg, nn, ng, t, a, u, y, er⟩) ∧ Below w.heap.size w wc)
            case first =>
              cases bt with
              | false =>
                go_wp2_with fail
                go_meet
                case rel => exact ⟨by rw [HZ.out], l1, bW⟩
              | true =>
                have cP : ∀ W, Calls Tryd.prog 29 #[.int .i64 t] W fun e w' => e = .returned (tx PP4) ∧ Below W.heap.size W w' := fun W => by rw [← HPP44.out]; exact decimal_any _ t (Nat.lt_succ_self _) hx.out.t.1 hx.out.t.2 W
                go_wp2_with fail
                refine (cP _).mono ?_
                rintro e wn ⟨rfl, bb⟩
                have l1 := l1.below bb l1.lt
                have bW := bW.trans (bb.mono bW.size)
                clear f0 f1 f2 f3 f4 f5 f6 f7 f8 f9 fa fbb
                obtain ⟨f0, f1, f2, f3, f4, f5, f6, f7, f8, f9, fa, fbb⟩ := cellsX l1
                go_wp2_with fail
                go_meet
                case rel => exact ⟨congrArg Value.string HF.out, l1, bW⟩
            case rest =>
              clear l1 bW f0 f1 f2 f3 f4 f5 f6 f7 f8 f9 fa fbb s1 s2 HF HZ
              obtain ⟨rfl, l1, bW⟩ := hcut
              obtain ⟨f0, f1, f2, f3, f4, f5, f6, f7, f8, f9, fa, fbb⟩ := cellsX l1
              obtain ⟨S5, hS'⟩ : ∃ S', S4 ++ pz (bt) PP4 = S' := ⟨_, rfl⟩
              have sl5 : S5.length ≤ 1200 := by rw [← hS', List.length_append]; have := pz_len (bt) PP4; omega
              rw [hS']
              have HS5 := Lib.hid hS'
              clear hS' PL
              go_wp2_with fail
              refine (show Calls Tryd.prog 30 #[.agg (Ev.c ⟨(kk : Nat), ww, (oo : Nat), hn, hg, nn, ng, t, a, u, y, er⟩), .int .u8 97] _ _ from cA _).mono ?_
              rintro e wn ⟨rfl, bb⟩
              have l1 := l1.below bb l1.lt
              have bW := bW.trans (bb.mono bW.size)
              clear f0 f1 f2 f3 f4 f5 f6 f7 f8 f9 fa fbb
              obtain ⟨f0, f1, f2, f3, f4, f5, f6, f7, f8, f9, fa, fbb⟩ := cellsX l1
              go_upto_if 57 with (fail)
              have PL : (Lib.itoa a).length ≤ 100 := Nat.le_trans (itoa_len hx.out.a.1 hx.out.a.2) (by decide)
              obtain ⟨PP5, hPP5⟩ : ∃ PP5, Lib.itoa a = PP5 := ⟨_, rfl⟩
              rw [hPP5] at PL
              have HPP55 := Lib.hid hPP5
              clear hPP5
              have s1 : ¬ (9223372036854775807 < S5.length + 1) := by omega
              have s2 : ¬ (9223372036854775807 < S5.length + 1 + PP5.length) := by omega
              have HF : Hid (((⟨S5.toArray⟩ : ByteArray) ++ ⟨#[32]⟩ ++ ⟨PP5.toArray⟩) = ⟨(S5 ++ 32 :: PP5).toArray⟩) := Lib.hid (by rw [show (⟨#[32]⟩ : ByteArray) = ⟨([32] : List UInt8).toArray⟩ from rfl, ba_app, ba_app]; simp)
              have HZ : Hid (S5 ++ pz false PP5 = S5) := Lib.hid (by simp [pz])
              go_cut [3] (fun v wc => v = tx (S5 ++ pz (ba) (PP5)) ∧ Lies wc w.heap.size 25 (Ev.c ⟨(kk : Nat), ww, (oo : Nat), hn, hg, nn, ng, t, a, u, y, er⟩) ∧ Below w.heap.size w wc)
              case first =>
                cases ba with
                | false =>
                  go_wp2_with fail
                  go_meet
                  case rel => exact ⟨by rw [HZ.out], l1, bW⟩
                | true =>
                  have cP : ∀ W, Calls Tryd.prog 29 #[.int .i64 a] W fun e w' => e = .returned (tx PP5) ∧ Below W.heap.size W w' := fun W => by rw [← HPP55.out]; exact decimal_any _ a (Nat.lt_succ_self _) hx.out.a.1 hx.out.a.2 W
                  go_wp2_with fail
                  refine (cP _).mono ?_
                  rintro e wn ⟨rfl, bb⟩
                  have l1 := l1.below bb l1.lt
                  have bW := bW.trans (bb.mono bW.size)
                  clear f0 f1 f2 f3 f4 f5 f6 f7 f8 f9 fa fbb
                  obtain ⟨f0, f1, f2, f3, f4, f5, f6, f7, f8, f9, fa, fbb⟩ := cellsX l1
                  go_wp2_with fail
                  go_meet
                  case rel => exact ⟨congrArg Value.string HF.out, l1, bW⟩
              case rest =>
                clear l1 bW f0 f1 f2 f3 f4 f5 f6 f7 f8 f9 fa fbb s1 s2 HF HZ
                obtain ⟨rfl, l1, bW⟩ := hcut
                obtain ⟨f0, f1, f2, f3, f4, f5, f6, f7, f8, f9, fa, fbb⟩ := cellsX l1
                obtain ⟨S6, hS'⟩ : ∃ S', S5 ++ pz (ba) PP5 = S' := ⟨_, rfl⟩
                have sl6 : S6.length ≤ 1400 := by rw [← hS', List.length_append]; have := pz_len (ba) PP5; omega
                rw [hS']
                have HS6 := Lib.hid hS'
                clear hS' PL
                go_wp2_with fail
                refine (show Calls Tryd.prog 30 #[.agg (Ev.c ⟨(kk : Nat), ww, (oo : Nat), hn, hg, nn, ng, t, a, u, y, er⟩), .int .u8 117] _ _ from cU _).mono ?_
                rintro e wn ⟨rfl, bb⟩
                have l1 := l1.below bb l1.lt
                have bW := bW.trans (bb.mono bW.size)
                clear f0 f1 f2 f3 f4 f5 f6 f7 f8 f9 fa fbb
                obtain ⟨f0, f1, f2, f3, f4, f5, f6, f7, f8, f9, fa, fbb⟩ := cellsX l1
                go_upto_if 65 with (fail)
                have PL : (Lib.itoa u).length ≤ 100 := Nat.le_trans (itoa_len hx.out.u.1 hx.out.u.2) (by decide)
                obtain ⟨PP6, hPP6⟩ : ∃ PP6, Lib.itoa u = PP6 := ⟨_, rfl⟩
                rw [hPP6] at PL
                have HPP66 := Lib.hid hPP6
                clear hPP6
                have s1 : ¬ (9223372036854775807 < S6.length + 1) := by omega
                have s2 : ¬ (9223372036854775807 < S6.length + 1 + PP6.length) := by omega
                have HF : Hid (((⟨S6.toArray⟩ : ByteArray) ++ ⟨#[32]⟩ ++ ⟨PP6.toArray⟩) = ⟨(S6 ++ 32 :: PP6).toArray⟩) := Lib.hid (by rw [show (⟨#[32]⟩ : ByteArray) = ⟨([32] : List UInt8).toArray⟩ from rfl, ba_app, ba_app]; simp)
                have HZ : Hid (S6 ++ pz false PP6 = S6) := Lib.hid (by simp [pz])
                go_cut [3] (fun v wc => v = tx (S6 ++ pz (bu) (PP6)) ∧ Lies wc w.heap.size 25 (Ev.c ⟨(kk : Nat), ww, (oo : Nat), hn, hg, nn, ng, t, a, u, y, er⟩) ∧ Below w.heap.size w wc)
                case first =>
                  cases bu with
                  | false =>
                    go_wp2_with fail
                    go_meet
                    case rel => exact ⟨by rw [HZ.out], l1, bW⟩
                  | true =>
                    have cP : ∀ W, Calls Tryd.prog 29 #[.int .i64 u] W fun e w' => e = .returned (tx PP6) ∧ Below W.heap.size W w' := fun W => by rw [← HPP66.out]; exact decimal_any _ u (Nat.lt_succ_self _) hx.out.u.1 hx.out.u.2 W
                    go_wp2_with fail
                    refine (cP _).mono ?_
                    rintro e wn ⟨rfl, bb⟩
                    have l1 := l1.below bb l1.lt
                    have bW := bW.trans (bb.mono bW.size)
                    clear f0 f1 f2 f3 f4 f5 f6 f7 f8 f9 fa fbb
                    obtain ⟨f0, f1, f2, f3, f4, f5, f6, f7, f8, f9, fa, fbb⟩ := cellsX l1
                    go_wp2_with fail
                    go_meet
                    case rel => exact ⟨congrArg Value.string HF.out, l1, bW⟩
                case rest =>
                  clear l1 bW f0 f1 f2 f3 f4 f5 f6 f7 f8 f9 fa fbb s1 s2 HF HZ
                  obtain ⟨rfl, l1, bW⟩ := hcut
                  obtain ⟨f0, f1, f2, f3, f4, f5, f6, f7, f8, f9, fa, fbb⟩ := cellsX l1
                  obtain ⟨S7, hS'⟩ : ∃ S', S6 ++ pz (bu) PP6 = S' := ⟨_, rfl⟩
                  have sl7 : S7.length ≤ 1600 := by rw [← hS', List.length_append]; have := pz_len (bu) PP6; omega
                  rw [hS']
                  have HS7 := Lib.hid hS'
                  clear hS' PL
                  cases by_ with
                  | false =>
                    go_wp2_with fail
                    refine (show Calls Tryd.prog 30 #[.agg (Ev.c ⟨(kk : Nat), ww, (oo : Nat), hn, hg, nn, ng, t, a, u, y, er⟩), .int .u8 121] _ _ from cY _).mono ?_
                    rintro e wn ⟨rfl, bb⟩
                    have l1 := l1.below bb l1.lt
                    have bW := bW.trans (bb.mono bW.size)
                    clear f0 f1 f2 f3 f4 f5 f6 f7 f8 f9 fa fbb
                    obtain ⟨f0, f1, f2, f3, f4, f5, f6, f7, f8, f9, fa, fbb⟩ := cellsX l1
                    go_wp2_with fail
                    refine (show Calls Tryd.prog 30 #[.agg (Ev.c ⟨(kk : Nat), ww, (oo : Nat), hn, hg, nn, ng, t, a, u, y, er⟩), .int .u8 121] _ _ from cY _).mono ?_
                    rintro e wn ⟨rfl, bb⟩
                    have l1 := l1.below bb l1.lt
                    have bW := bW.trans (bb.mono bW.size)
                    clear f0 f1 f2 f3 f4 f5 f6 f7 f8 f9 fa fbb
                    obtain ⟨f0, f1, f2, f3, f4, f5, f6, f7, f8, f9, fa, fbb⟩ := cellsX l1
                    obtain ⟨S8, hS'⟩ : ∃ S', S7 ++ pz false (ysT y) = S' := ⟨_, rfl⟩
                    have e8 : S8 = S7 := by rw [← hS']; simp [pz]
                    have sl8 : S8.length ≤ 1800 := by rw [e8]; omega
                    have HS8 := Lib.hid hS'
                    go_upto_region 22 with (fail)
                    rw [← e8]
                    clear hS' e8
                    go_wp2_with fail
                    refine (show Calls Tryd.prog 30 #[.agg (Ev.c ⟨(kk : Nat), ww, (oo : Nat), hn, hg, nn, ng, t, a, u, y, er⟩), .int .u8 101] _ _ from cE _).mono ?_
                    rintro e wn ⟨rfl, bb⟩
                    have l1 := l1.below bb l1.lt
                    have bW := bW.trans (bb.mono bW.size)
                    clear f0 f1 f2 f3 f4 f5 f6 f7 f8 f9 fa fbb
                    obtain ⟨f0, f1, f2, f3, f4, f5, f6, f7, f8, f9, fa, fbb⟩ := cellsX l1
                    go_upto_if 85 with (fail)
                    have PL : (Lib.itoa er).length ≤ 100 := Nat.le_trans (itoa_len hx.out.e.1 hx.out.e.2) (by decide)
                    obtain ⟨PP8, hPP8⟩ : ∃ PP8, Lib.itoa er = PP8 := ⟨_, rfl⟩
                    rw [hPP8] at PL
                    have HPP88 := Lib.hid hPP8
                    clear hPP8
                    have s1 : ¬ (9223372036854775807 < S8.length + 1) := by omega
                    have s2 : ¬ (9223372036854775807 < S8.length + 1 + PP8.length) := by omega
                    have HF : Hid (((⟨S8.toArray⟩ : ByteArray) ++ ⟨#[32]⟩ ++ ⟨PP8.toArray⟩) = ⟨(S8 ++ 32 :: PP8).toArray⟩) := Lib.hid (by rw [show (⟨#[32]⟩ : ByteArray) = ⟨([32] : List UInt8).toArray⟩ from rfl, ba_app, ba_app]; simp)
                    have HZ : Hid (S8 ++ pz false PP8 = S8) := Lib.hid (by simp [pz])
                    go_cut [3] (fun v wc => v = tx (S8 ++ pz (be) (PP8)) ∧ Lies wc w.heap.size 25 (Ev.c ⟨(kk : Nat), ww, (oo : Nat), hn, hg, nn, ng, t, a, u, y, er⟩) ∧ Below w.heap.size w wc)
                    case first =>
                      cases be with
                      | false =>
                        go_wp2_with fail
                        go_meet
                        case rel => exact ⟨by rw [HZ.out], l1, bW⟩
                      | true =>
                        have cP : ∀ W, Calls Tryd.prog 29 #[.int .i64 er] W fun e w' => e = .returned (tx PP8) ∧ Below W.heap.size W w' := fun W => by rw [← HPP88.out]; exact decimal_any _ er (Nat.lt_succ_self _) hx.out.e.1 hx.out.e.2 W
                        go_wp2_with fail
                        refine (cP _).mono ?_
                        rintro e wn ⟨rfl, bb⟩
                        have l1 := l1.below bb l1.lt
                        have bW := bW.trans (bb.mono bW.size)
                        clear f0 f1 f2 f3 f4 f5 f6 f7 f8 f9 fa fbb
                        obtain ⟨f0, f1, f2, f3, f4, f5, f6, f7, f8, f9, fa, fbb⟩ := cellsX l1
                        go_wp2_with fail
                        go_meet
                        case rel => exact ⟨congrArg Value.string HF.out, l1, bW⟩
                    case rest =>
                      clear l1 bW f0 f1 f2 f3 f4 f5 f6 f7 f8 f9 fa fbb s1 s2 HF HZ
                      obtain ⟨rfl, l1, bW⟩ := hcut
                      obtain ⟨f0, f1, f2, f3, f4, f5, f6, f7, f8, f9, fa, fbb⟩ := cellsX l1
                      obtain ⟨S9, hS'⟩ : ∃ S', S8 ++ pz (be) PP8 = S' := ⟨_, rfl⟩
                      have sl9 : S9.length ≤ 2000 := by rw [← hS', List.length_append]; have := pz_len (be) PP8; omega
                      rw [hS']
                      have HS9 := Lib.hid hS'
                      clear hS' PL
                      have hf : S9 = rl := by
                        have h := HRL.out
                        simp only [Int.toNat_natCast] at h
                        rw [← h, ← HS9.out, ← HS8.out, ← HS7.out, ← HS6.out, ← HS5.out, ← HS4.out, ← HS3.out, ← HS2.out, ← HS1.out, ← HS0.out, ← HPP00.out, ← HPP11.out, ← HPP22.out, ← HPP33.out, ← HPP44.out, ← HPP55.out, ← HPP66.out, ← HPP88.out]
                      go_wp2_with fail
                      go_ret
                      exact ⟨by rw [← hf]; rfl, bW⟩
                  | true =>
                    cases y with
                    | true =>
                      go_wp2_with fail
                      refine (show Calls Tryd.prog 30 #[.agg (Ev.c ⟨(kk : Nat), ww, (oo : Nat), hn, hg, nn, ng, t, a, u, true, er⟩), .int .u8 121] _ _ from cY _).mono ?_
                      rintro e wn ⟨rfl, bb⟩
                      have l1 := l1.below bb l1.lt
                      have bW := bW.trans (bb.mono bW.size)
                      clear f0 f1 f2 f3 f4 f5 f6 f7 f8 f9 fa fbb
                      obtain ⟨f0, f1, f2, f3, f4, f5, f6, f7, f8, f9, fa, fbb⟩ := cellsX l1
                      have s3 : ¬ (9223372036854775807 < S7.length + 4) := by omega
                      obtain ⟨S8, hS'⟩ : ∃ S', S7 ++ pz true (ysT true) = S' := ⟨_, rfl⟩
                      have e8 : ((⟨S7.toArray⟩ : ByteArray) ++ ⟨#[32, 121, 101, 115]⟩) = ⟨S8.toArray⟩ := by rw [← hS', show (⟨#[32, 121, 101, 115]⟩ : ByteArray) = ⟨([32, 121, 101, 115] : List UInt8).toArray⟩ from rfl, ba_app]; rfl
                      have sl8 : S8.length ≤ 1800 := by rw [← hS']; simp [pz, ysT]; omega
                      have HS8 := Lib.hid hS'
                      have HE8 := Lib.hid e8
                      clear hS' e8
                      go_upto_region 22 with (fail)
                      rw [HE8.out]
                      go_wp2_with fail
                      refine (show Calls Tryd.prog 30 #[.agg (Ev.c ⟨(kk : Nat), ww, (oo : Nat), hn, hg, nn, ng, t, a, u, true, er⟩), .int .u8 101] _ _ from cE _).mono ?_
                      rintro e wn ⟨rfl, bb⟩
                      have l1 := l1.below bb l1.lt
                      have bW := bW.trans (bb.mono bW.size)
                      clear f0 f1 f2 f3 f4 f5 f6 f7 f8 f9 fa fbb
                      obtain ⟨f0, f1, f2, f3, f4, f5, f6, f7, f8, f9, fa, fbb⟩ := cellsX l1
                      go_upto_if 85 with (fail)
                      have PL : (Lib.itoa er).length ≤ 100 := Nat.le_trans (itoa_len hx.out.e.1 hx.out.e.2) (by decide)
                      obtain ⟨PP8, hPP8⟩ : ∃ PP8, Lib.itoa er = PP8 := ⟨_, rfl⟩
                      rw [hPP8] at PL
                      have HPP88 := Lib.hid hPP8
                      clear hPP8
                      have s1 : ¬ (9223372036854775807 < S8.length + 1) := by omega
                      have s2 : ¬ (9223372036854775807 < S8.length + 1 + PP8.length) := by omega
                      have HF : Hid (((⟨S8.toArray⟩ : ByteArray) ++ ⟨#[32]⟩ ++ ⟨PP8.toArray⟩) = ⟨(S8 ++ 32 :: PP8).toArray⟩) := Lib.hid (by rw [show (⟨#[32]⟩ : ByteArray) = ⟨([32] : List UInt8).toArray⟩ from rfl, ba_app, ba_app]; simp)
                      have HZ : Hid (S8 ++ pz false PP8 = S8) := Lib.hid (by simp [pz])
                      go_cut [3] (fun v wc => v = tx (S8 ++ pz (be) (PP8)) ∧ Lies wc w.heap.size 25 (Ev.c ⟨(kk : Nat), ww, (oo : Nat), hn, hg, nn, ng, t, a, u, true, er⟩) ∧ Below w.heap.size w wc)
                      case first =>
                        cases be with
                        | false =>
                          go_wp2_with fail
                          go_meet
                          case rel => exact ⟨by rw [HZ.out], l1, bW⟩
                        | true =>
                          have cP : ∀ W, Calls Tryd.prog 29 #[.int .i64 er] W fun e w' => e = .returned (tx PP8) ∧ Below W.heap.size W w' := fun W => by rw [← HPP88.out]; exact decimal_any _ er (Nat.lt_succ_self _) hx.out.e.1 hx.out.e.2 W
                          go_wp2_with fail
                          refine (cP _).mono ?_
                          rintro e wn ⟨rfl, bb⟩
                          have l1 := l1.below bb l1.lt
                          have bW := bW.trans (bb.mono bW.size)
                          clear f0 f1 f2 f3 f4 f5 f6 f7 f8 f9 fa fbb
                          obtain ⟨f0, f1, f2, f3, f4, f5, f6, f7, f8, f9, fa, fbb⟩ := cellsX l1
                          go_wp2_with fail
                          go_meet
                          case rel => exact ⟨congrArg Value.string HF.out, l1, bW⟩
                      case rest =>
                        clear l1 bW f0 f1 f2 f3 f4 f5 f6 f7 f8 f9 fa fbb s1 s2 HF HZ
                        obtain ⟨rfl, l1, bW⟩ := hcut
                        obtain ⟨f0, f1, f2, f3, f4, f5, f6, f7, f8, f9, fa, fbb⟩ := cellsX l1
                        obtain ⟨S9, hS'⟩ : ∃ S', S8 ++ pz (be) PP8 = S' := ⟨_, rfl⟩
                        have sl9 : S9.length ≤ 2000 := by rw [← hS', List.length_append]; have := pz_len (be) PP8; omega
                        rw [hS']
                        have HS9 := Lib.hid hS'
                        clear hS' PL
                        have hf : S9 = rl := by
                          have h := HRL.out
                          simp only [Int.toNat_natCast] at h
                          rw [← h, ← HS9.out, ← HS8.out, ← HS7.out, ← HS6.out, ← HS5.out, ← HS4.out, ← HS3.out, ← HS2.out, ← HS1.out, ← HS0.out, ← HPP00.out, ← HPP11.out, ← HPP22.out, ← HPP33.out, ← HPP44.out, ← HPP55.out, ← HPP66.out, ← HPP88.out]
                        go_wp2_with fail
                        go_ret
                        exact ⟨by rw [← hf]; rfl, bW⟩
                    | false =>
                      go_wp2_with fail
                      refine (show Calls Tryd.prog 30 #[.agg (Ev.c ⟨(kk : Nat), ww, (oo : Nat), hn, hg, nn, ng, t, a, u, false, er⟩), .int .u8 121] _ _ from cY _).mono ?_
                      rintro e wn ⟨rfl, bb⟩
                      have l1 := l1.below bb l1.lt
                      have bW := bW.trans (bb.mono bW.size)
                      clear f0 f1 f2 f3 f4 f5 f6 f7 f8 f9 fa fbb
                      obtain ⟨f0, f1, f2, f3, f4, f5, f6, f7, f8, f9, fa, fbb⟩ := cellsX l1
                      have s3 : ¬ (9223372036854775807 < S7.length + 3) := by omega
                      go_wp2_with fail
                      refine (show Calls Tryd.prog 30 #[.agg (Ev.c ⟨(kk : Nat), ww, (oo : Nat), hn, hg, nn, ng, t, a, u, false, er⟩), .int .u8 121] _ _ from cY _).mono ?_
                      rintro e wn ⟨rfl, bb⟩
                      have l1 := l1.below bb l1.lt
                      have bW := bW.trans (bb.mono bW.size)
                      clear f0 f1 f2 f3 f4 f5 f6 f7 f8 f9 fa fbb
                      obtain ⟨f0, f1, f2, f3, f4, f5, f6, f7, f8, f9, fa, fbb⟩ := cellsX l1
                      obtain ⟨S8, hS'⟩ : ∃ S', S7 ++ pz true (ysT false) = S' := ⟨_, rfl⟩
                      have e8 : ((⟨S7.toArray⟩ : ByteArray) ++ ⟨#[32, 110, 111]⟩) = ⟨S8.toArray⟩ := by rw [← hS', show (⟨#[32, 110, 111]⟩ : ByteArray) = ⟨([32, 110, 111] : List UInt8).toArray⟩ from rfl, ba_app]; rfl
                      have sl8 : S8.length ≤ 1800 := by rw [← hS']; simp [pz, ysT]; omega
                      have HS8 := Lib.hid hS'
                      have HE8 := Lib.hid e8
                      clear hS' e8
                      go_upto_region 22 with (fail)
                      rw [HE8.out]
                      go_wp2_with fail
                      refine (show Calls Tryd.prog 30 #[.agg (Ev.c ⟨(kk : Nat), ww, (oo : Nat), hn, hg, nn, ng, t, a, u, false, er⟩), .int .u8 101] _ _ from cE _).mono ?_
                      rintro e wn ⟨rfl, bb⟩
                      have l1 := l1.below bb l1.lt
                      have bW := bW.trans (bb.mono bW.size)
                      clear f0 f1 f2 f3 f4 f5 f6 f7 f8 f9 fa fbb
                      obtain ⟨f0, f1, f2, f3, f4, f5, f6, f7, f8, f9, fa, fbb⟩ := cellsX l1
                      go_upto_if 85 with (fail)
                      have PL : (Lib.itoa er).length ≤ 100 := Nat.le_trans (itoa_len hx.out.e.1 hx.out.e.2) (by decide)
                      obtain ⟨PP8, hPP8⟩ : ∃ PP8, Lib.itoa er = PP8 := ⟨_, rfl⟩
                      rw [hPP8] at PL
                      have HPP88 := Lib.hid hPP8
                      clear hPP8
                      have s1 : ¬ (9223372036854775807 < S8.length + 1) := by omega
                      have s2 : ¬ (9223372036854775807 < S8.length + 1 + PP8.length) := by omega
                      have HF : Hid (((⟨S8.toArray⟩ : ByteArray) ++ ⟨#[32]⟩ ++ ⟨PP8.toArray⟩) = ⟨(S8 ++ 32 :: PP8).toArray⟩) := Lib.hid (by rw [show (⟨#[32]⟩ : ByteArray) = ⟨([32] : List UInt8).toArray⟩ from rfl, ba_app, ba_app]; simp)
                      have HZ : Hid (S8 ++ pz false PP8 = S8) := Lib.hid (by simp [pz])
                      go_cut [3] (fun v wc => v = tx (S8 ++ pz (be) (PP8)) ∧ Lies wc w.heap.size 25 (Ev.c ⟨(kk : Nat), ww, (oo : Nat), hn, hg, nn, ng, t, a, u, false, er⟩) ∧ Below w.heap.size w wc)
                      case first =>
                        cases be with
                        | false =>
                          go_wp2_with fail
                          go_meet
                          case rel => exact ⟨by rw [HZ.out], l1, bW⟩
                        | true =>
                          have cP : ∀ W, Calls Tryd.prog 29 #[.int .i64 er] W fun e w' => e = .returned (tx PP8) ∧ Below W.heap.size W w' := fun W => by rw [← HPP88.out]; exact decimal_any _ er (Nat.lt_succ_self _) hx.out.e.1 hx.out.e.2 W
                          go_wp2_with fail
                          refine (cP _).mono ?_
                          rintro e wn ⟨rfl, bb⟩
                          have l1 := l1.below bb l1.lt
                          have bW := bW.trans (bb.mono bW.size)
                          clear f0 f1 f2 f3 f4 f5 f6 f7 f8 f9 fa fbb
                          obtain ⟨f0, f1, f2, f3, f4, f5, f6, f7, f8, f9, fa, fbb⟩ := cellsX l1
                          go_wp2_with fail
                          go_meet
                          case rel => exact ⟨congrArg Value.string HF.out, l1, bW⟩
                      case rest =>
                        clear l1 bW f0 f1 f2 f3 f4 f5 f6 f7 f8 f9 fa fbb s1 s2 HF HZ
                        obtain ⟨rfl, l1, bW⟩ := hcut
                        obtain ⟨f0, f1, f2, f3, f4, f5, f6, f7, f8, f9, fa, fbb⟩ := cellsX l1
                        obtain ⟨S9, hS'⟩ : ∃ S', S8 ++ pz (be) PP8 = S' := ⟨_, rfl⟩
                        have sl9 : S9.length ≤ 2000 := by rw [← hS', List.length_append]; have := pz_len (be) PP8; omega
                        rw [hS']
                        have HS9 := Lib.hid hS'
                        clear hS' PL
                        have hf : S9 = rl := by
                          have h := HRL.out
                          simp only [Int.toNat_natCast] at h
                          rw [← h, ← HS9.out, ← HS8.out, ← HS7.out, ← HS6.out, ← HS5.out, ← HS4.out, ← HS3.out, ← HS2.out, ← HS1.out, ← HS0.out, ← HPP00.out, ← HPP11.out, ← HPP22.out, ← HPP33.out, ← HPP44.out, ← HPP55.out, ← HPP66.out, ← HPP88.out]
                        go_wp2_with fail
                        go_ret
                        exact ⟨by rw [← hf]; rfl, bW⟩

end Go.Proofs.YtiaknnhfbfoeiaaDoor
