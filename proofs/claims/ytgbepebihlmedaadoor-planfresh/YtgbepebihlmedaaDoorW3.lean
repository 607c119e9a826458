/- Contracts: the five kinds of words, laid. -/
import Derived.Test.YtgbepebihlmedaaDoorW2
namespace Go.Proofs.YtgbepebihlmedaaDoor
open Go.RowKit

abbrev I64 (n : Int) : Prop := -9223372036854775808 ≤ n ∧ n ≤ 9223372036854775807

theorem lay_n (a0 a1 a2 a3 : Int) (ws : List Int) (n b cap : Nat) (w : World) (hn : n = ws.length) (hw : Wide ws) (hlen : ws.length ≤ 4) (hws : IsInts w b ws)
    (h0 : I64 a0) (h1 : I64 a1) (h2 : I64 a2) (h3 : I64 a3) :
    Calls Tryd.prog 61 #[.agg #[.int .i64 a0, .int .i64 a1, .int .i64 a2, .int .i64 a3], .slice (some ⟨b, 0, none⟩) n cap] w
      fun e w' => e = .returned (.tuple #[.int .u64 (packW [a0, a1, a2, a3] ws), .int .i64 (packE [a0, a1, a2, a3] ws)]) ∧ Below w.heap.size w w' := by
  subst hn
  refine lay_any a0 a1 a2 a3 ws b cap w hw hlen hws ?_
  intro i hi
  rcases i with _ | _ | _ | _ | i
  · exact h0
  · exact h1
  · exact h2
  · exact h3
  · omega

def stateWs : List Int := [32, 30, 2]
def homeWs : List Int := [32, 16, 16]
def headWs : List Int := [32, 32]
def connWs : List Int := [26, 5, 3, 30]
theorem wide_of {ws : List Int} (h : ∀ x ∈ ws, 1 ≤ x ∧ x ≤ 62) (g : sumTo ws ws.length = 64) : Wide ws :=
  ⟨fun i hi => by rw [List.getD_eq_getElem?_getD, List.getElem?_eq_getElem hi]; exact h _ (List.getElem_mem hi), g⟩
theorem wide_state : Wide stateWs := wide_of (by simp [stateWs]) (by simp [stateWs, sumTo])
theorem wide_home : Wide homeWs := wide_of (by simp [homeWs]) (by simp [homeWs, sumTo])
theorem wide_head : Wide headWs := wide_of (by simp [headWs]) (by simp [headWs, sumTo])
theorem wide_conn : Wide connWs := wide_of (by simp [connWs]) (by simp [connWs, sumTo])

theorem isInts_two (w : World) (o : Obj) (cs : Array Value) (T : TypeId) (ws : List Int) (h : ∀ i, i < ws.length → cs[i]? = some (.int .i64 (ws.getD i 0))) :
    IsInts ((w.alloc o).alloc (.cells cs T)) (w.heap.size + 1) ws := by
  refine ⟨by simp, fun i hi => ?_⟩
  have e := World.cell?_alloc_new (w.alloc o) cs T i
  rw [show (w.alloc o).heap.size = w.heap.size + 1 by simp] at e
  rw [e, h i hi]

theorem below_two (w : World) (o p : Obj) (w' : World) (h : Below ((w.alloc o).alloc p).heap.size ((w.alloc o).alloc p) w') : Below w.heap.size w w' :=
  (((Below.refl _ _).alloc (Nat.le_refl _) o).alloc (by simp) p).trans (h.mono (by simp; omega))

theorem pair3 (x0 x1 x2 : Int) : ∀ i, i < [x0, x1, x2].length → (#[Value.int .i64 x0, .int .i64 x1, .int .i64 x2])[i]? = some (.int .i64 ([x0, x1, x2].getD i 0)) := by
  intro i hi
  rcases i with _ | _ | _ | i
  · rfl
  · rfl
  · rfl
  · simp at hi; omega
theorem pair2 (x0 x1 : Int) : ∀ i, i < [x0, x1].length → (#[Value.int .i64 x0, .int .i64 x1])[i]? = some (.int .i64 ([x0, x1].getD i 0)) := by
  intro i hi
  rcases i with _ | _ | i
  · rfl
  · rfl
  · simp at hi; omega
theorem pair4 (x0 x1 x2 x3 : Int) : ∀ i, i < [x0, x1, x2, x3].length → (#[Value.int .i64 x0, .int .i64 x1, .int .i64 x2, .int .i64 x3])[i]? = some (.int .i64 ([x0, x1, x2, x3].getD i 0)) := by
  intro i hi
  rcases i with _ | _ | _ | _ | i
  · rfl
  · rfl
  · rfl
  · rfl
  · simp at hi; omega

theorem wrap64_bd (n : Int) : I64 (wrap64 n) := by
  unfold wrap64 I64; omega

theorem state_word (a b c : Int) (w : World) (ha : I64 a) (hb : I64 b) (hc : I64 c) :
    Calls Tryd.prog 53 #[.agg #[.int .i64 a, .int .i64 b, .int .i64 c]] w
      fun e w' => e = .returned (.tuple #[.int .u64 (packW [a, b, c, 0] stateWs), .int .i64 (packE [a, b, c, 0] stateWs)]) ∧ Below w.heap.size w w' := by
  go_enter Tryd.func53, Tryd.ntmps53
  go_wp2_with fail
  refine (lay_n _ _ _ _ stateWs _ _ _ _ rfl wide_state (by decide) (isInts_two _ _ _ _ _ (pair3 _ _ _)) ha hb hc ⟨by omega, by omega⟩).mono ?_
  rintro e w' ⟨rfl, hbel⟩
  have hbel2 := Lib.hid (below_two _ _ _ _ hbel)
  clear hbel
  go_wp2
  go_ret2
  exact ⟨rfl, hbel2.out⟩

theorem head_word (a b : Int) (w : World) (ha : I64 a) :
    Calls Tryd.prog 52 #[.agg #[.int .i64 a, .int .i64 b]] w
      fun e w' => e = .returned (.tuple #[.int .u64 (packW [a, wrap64 (b + 1), 0, 0] headWs), .int .i64 (packE [a, wrap64 (b + 1), 0, 0] headWs)]) ∧ Below w.heap.size w w' := by
  go_enter Tryd.func52, Tryd.ntmps52
  go_wp2_with fail
  refine (lay_n _ _ _ _ headWs _ _ _ _ rfl wide_head (by decide) (isInts_two _ _ _ _ _ (pair2 _ _)) ha (wrap64_bd _) ⟨by omega, by omega⟩ ⟨by omega, by omega⟩).mono ?_
  rintro e w' ⟨rfl, hbel⟩
  have hbel2 := Lib.hid (below_two _ _ _ _ hbel)
  clear hbel
  go_wp2
  go_ret2
  exact ⟨rfl, hbel2.out⟩

end Go.Proofs.YtgbepebihlmedaaDoor
