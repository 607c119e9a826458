/- An event that is handed in. -/
import Derived.Test.YtiaknnhfbfoeiaaDoorETab
namespace Go.Proofs.YtiaknnhfbfoeiaaDoor
open Go.ChangeShapes Go.WideShapes Go.ChangeAt Go.RowKit
set_option maxRecDepth 100000

theorem list_12 (l : List Value) (h : l.length = 12) : ∃ a b c d e f g i j k m n, l = [a, b, c, d, e, f, g, i, j, k, m, n] := by
  match l, h with
  | [a, b, c, d, e, f, g, i, j, k, m, n], _ => exact ⟨a, b, c, d, e, f, g, i, j, k, m, n, rfl⟩
theorem i6_of {v : Int} (h : (Lit.int .i64 v).wf = true) : I6 v := by
  have := bounds_i64 h
  constructor <;> omega
theorem ev_opened {H : Type} {enc : TypeId × Value → H} {W : World} {base : Nat} {spare : Nat → Bool} {held : Bool} {cs : Array Value} {d : DataW H} {p : List MemPlace}
    (h : DataW.Trod enc Tryd.prog W base spare held 25 (.agg cs) d p) : ∃ x : Ev, cs = x.c ∧ x.Ok := by
  obtain ⟨fuel, hf⟩ := h
  obtain ⟨xs, n, rfl, _, hlen, hxl, hel⟩ := DataW.trod_struct Tryd.underlying25 hf
  have c12 : Tryd.prog.cellsOf 25 = 12 := by kernel_rfl
  have ci : Tryd.prog.cellsOf 3 = 1 := by kernel_rfl
  have cb : Tryd.prog.cellsOf 4 = 1 := by kernel_rfl
  have ch : Tryd.prog.cellsOf 23 = 2 := by kernel_rfl
  rw [c12] at hlen
  obtain ⟨l⟩ := cs
  have hl : l.length = 12 := by simpa [Value.cells] using hlen
  obtain ⟨a0, a1, a2, a3, a4, a5, a6, a7, a8, a9, aa, ab, rfl⟩ := list_12 l hl
  have hx10 : xs.length = 10 := hxl
  have one : ∀ (c : Value) (i : Nat), i < 10 → DataW.trod enc Tryd.prog W base spare held n 3 [c] = xs[i]? → ∃ v, c = .int .i64 v ∧ I6 v := fun c i hi h0 => by
    obtain ⟨x, hx⟩ : ∃ x, xs[i]? = some x := ⟨_, List.getElem?_eq_getElem (by omega)⟩
    rw [hx] at h0
    obtain ⟨v, e, _, w⟩ := DataW.trod_int Tryd.underlying3 h0
    injection e with e
    exact ⟨v, e, i6_of w⟩
  have two : ∀ (c c' : Value) (i : Nat), i < 10 → DataW.trod enc Tryd.prog W base spare held n 23 [c, c'] = xs[i]? → (∃ v, c = .int .i64 v ∧ I6 v) ∧ ∃ v, c' = .int .i64 v ∧ I6 v := fun c c' i hi h0 => by
    obtain ⟨x, hx⟩ : ∃ x, xs[i]? = some x := ⟨_, List.getElem?_eq_getElem (by omega)⟩
    rw [hx] at h0
    obtain ⟨ys, m, rfl, _, _, hyl, he2⟩ := DataW.trod_struct Tryd.underlying23 h0
    have hy2 : ys.length = 2 := hyl
    have g0 := he2 0 _ rfl
    have g1 := he2 1 _ rfl
    have g0 : DataW.trod enc Tryd.prog W base spare held m 3 (([c, c'].drop 0).take (Tryd.prog.cellsOf 3)) = ys[0]? := g0
    have g1 : DataW.trod enc Tryd.prog W base spare held m 3 (([c, c'].drop 1).take (Tryd.prog.cellsOf 3)) = ys[1]? := g1
    rw [ci] at g0 g1
    obtain ⟨y0, hy0⟩ : ∃ y, ys[0]? = some y := ⟨_, List.getElem?_eq_getElem (by omega)⟩
    obtain ⟨y1, hy1⟩ : ∃ y, ys[1]? = some y := ⟨_, List.getElem?_eq_getElem (by omega)⟩
    rw [hy0] at g0
    rw [hy1] at g1
    obtain ⟨v, e, _, w⟩ := DataW.trod_int Tryd.underlying3 g0
    obtain ⟨v', e', _, w'⟩ := DataW.trod_int Tryd.underlying3 g1
    simp at e e'
    exact ⟨⟨v, e, i6_of w⟩, ⟨v', e', i6_of w'⟩⟩
  have h0 := hel 0 _ rfl
  have h1 := hel 1 _ rfl
  have h2 := hel 2 _ rfl
  have h3 := hel 3 _ rfl
  have h4 := hel 4 _ rfl
  have h5 := hel 5 _ rfl
  have h6 := hel 6 _ rfl
  have h7 := hel 7 _ rfl
  have h8 := hel 8 _ rfl
  have h9 := hel 9 _ rfl
  have h0 : DataW.trod enc Tryd.prog W base spare held n 3 (([a0, a1, a2, a3, a4, a5, a6, a7, a8, a9, aa, ab].drop 0).take (Tryd.prog.cellsOf 3)) = xs[0]? := h0
  rw [ci] at h0
  have h1 : DataW.trod enc Tryd.prog W base spare held n 3 (([a0, a1, a2, a3, a4, a5, a6, a7, a8, a9, aa, ab].drop 1).take (Tryd.prog.cellsOf 3)) = xs[1]? := h1
  rw [ci] at h1
  have h2 : DataW.trod enc Tryd.prog W base spare held n 3 (([a0, a1, a2, a3, a4, a5, a6, a7, a8, a9, aa, ab].drop 2).take (Tryd.prog.cellsOf 3)) = xs[2]? := h2
  rw [ci] at h2
  have h3 : DataW.trod enc Tryd.prog W base spare held n 23 (([a0, a1, a2, a3, a4, a5, a6, a7, a8, a9, aa, ab].drop 3).take (Tryd.prog.cellsOf 23)) = xs[3]? := h3
  rw [ch] at h3
  have h4 : DataW.trod enc Tryd.prog W base spare held n 23 (([a0, a1, a2, a3, a4, a5, a6, a7, a8, a9, aa, ab].drop 5).take (Tryd.prog.cellsOf 23)) = xs[4]? := h4
  rw [ch] at h4
  have h5 : DataW.trod enc Tryd.prog W base spare held n 3 (([a0, a1, a2, a3, a4, a5, a6, a7, a8, a9, aa, ab].drop 7).take (Tryd.prog.cellsOf 3)) = xs[5]? := h5
  rw [ci] at h5
  have h6 : DataW.trod enc Tryd.prog W base spare held n 3 (([a0, a1, a2, a3, a4, a5, a6, a7, a8, a9, aa, ab].drop 8).take (Tryd.prog.cellsOf 3)) = xs[6]? := h6
  rw [ci] at h6
  have h7 : DataW.trod enc Tryd.prog W base spare held n 3 (([a0, a1, a2, a3, a4, a5, a6, a7, a8, a9, aa, ab].drop 9).take (Tryd.prog.cellsOf 3)) = xs[7]? := h7
  rw [ci] at h7
  have h8 : DataW.trod enc Tryd.prog W base spare held n 4 (([a0, a1, a2, a3, a4, a5, a6, a7, a8, a9, aa, ab].drop 10).take (Tryd.prog.cellsOf 4)) = xs[8]? := h8
  rw [cb] at h8
  have h9 : DataW.trod enc Tryd.prog W base spare held n 3 (([a0, a1, a2, a3, a4, a5, a6, a7, a8, a9, aa, ab].drop 11).take (Tryd.prog.cellsOf 3)) = xs[9]? := h9
  rw [ci] at h9
  obtain ⟨k, rfl, ik⟩ := one _ 0 (by omega) h0
  obtain ⟨w, rfl, iw⟩ := one _ 1 (by omega) h1
  obtain ⟨o, rfl, io⟩ := one _ 2 (by omega) h2
  obtain ⟨⟨hn, rfl, ihn⟩, ⟨hg, rfl, ihg⟩⟩ := two _ _ 3 (by omega) h3
  obtain ⟨⟨nn, rfl, inn⟩, ⟨ng, rfl, ing⟩⟩ := two _ _ 4 (by omega) h4
  obtain ⟨t, rfl, it⟩ := one _ 5 (by omega) h5
  obtain ⟨a, rfl, ia⟩ := one _ 6 (by omega) h6
  obtain ⟨u, rfl, iu⟩ := one _ 7 (by omega) h7
  obtain ⟨e, rfl, ie⟩ := one _ 9 (by omega) h9
  obtain ⟨x, hx⟩ : ∃ x, xs[8]? = some x := ⟨_, List.getElem?_eq_getElem (by omega)⟩
  rw [hx] at h8
  obtain ⟨y, ey, _⟩ := DataW.trod_bool Tryd.underlying4 h8
  injection ey with ey
  subst ey
  exact ⟨⟨k, w, o, hn, hg, nn, ng, t, a, u, y, e⟩, rfl, ⟨ik, iw, io, ihn, ihg, inn, ing, it, ia, iu, ie⟩⟩

end Go.Proofs.YtiaknnhfbfoeiaaDoor
