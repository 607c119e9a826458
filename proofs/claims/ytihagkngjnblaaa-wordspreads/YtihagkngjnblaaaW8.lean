/- The law: any numbers' words are as the document says. -/
import Derived.Test.YtihagkngjnblaaaW7
import Derived.Test.YtihagkngjnblaaaInj
namespace Go.Proofs.Ytihagkngjnblaaa
open Go.RowKit

theorem widths_state (w : World) : Calls Try.prog 19 #[.int .i64 0] w fun e w' => e = .returned (.slice (some ⟨w.heap.size, 0, none⟩) 3 3) ∧ w.alloc (.cells #[.int .i64 32, .int .i64 30, .int .i64 2] 3) = w' := by
  go_enter Try.func19, Try.ntmps19
  go_wp2
  go_ret
  exact ⟨rfl, rfl⟩
theorem widths_home (k : Int) (hk : k = 1 ∨ k = 2) (w : World) : Calls Try.prog 19 #[.int .i64 k] w fun e w' => e = .returned (.slice (some ⟨w.heap.size, 0, none⟩) 3 3) ∧ w.alloc (.cells #[.int .i64 32, .int .i64 16, .int .i64 16] 3) = w' := by
  rcases hk with rfl | rfl
  all_goals
    go_enter Try.func19, Try.ntmps19
    go_wp2
    go_ret
    exact ⟨rfl, rfl⟩
theorem widths_head (w : World) : Calls Try.prog 19 #[.int .i64 3] w fun e w' => e = .returned (.slice (some ⟨w.heap.size, 0, none⟩) 2 2) ∧ w.alloc (.cells #[.int .i64 32, .int .i64 32] 3) = w' := by
  go_enter Try.func19, Try.ntmps19
  go_wp2
  go_ret
  exact ⟨rfl, rfl⟩
theorem widths_conn (w : World) : Calls Try.prog 19 #[.int .i64 4] w fun e w' => e = .returned (.slice (some ⟨w.heap.size, 0, none⟩) 4 4) ∧ w.alloc (.cells #[.int .i64 26, .int .i64 5, .int .i64 3, .int .i64 30] 3) = w' := by
  go_enter Try.func19, Try.ntmps19
  go_wp2
  go_ret
  exact ⟨rfl, rfl⟩

theorem pack_congr {ls ms ws : List Int} (h : ∀ i, i < ws.length → ls.getD i 0 = ms.getD i 0) : packW ls ws = packW ms ws ∧ packE ls ws = packE ms ws := by
  have hok : okTo ls ws ws.length ↔ okTo ms ws ws.length :=
    ⟨fun g i hi => by rw [← h i hi]; exact g i hi, fun g i hi => by rw [h i hi]; exact g i hi⟩
  by_cases g : okTo ls ws ws.length
  · have g' := hok.1 g
    rw [packW_ok g, packW_ok g', packE_ok g, packE_ok g']
    exact ⟨(pack_inj _ g g').2 h, rfl⟩
  · have g' : ¬ okTo ms ws ws.length := fun q => g (hok.2 q)
    rw [packW_no g, packW_no g', packE_no g, packE_no g']
    exact ⟨rfl, rfl⟩

theorem head_clamp (a b : Int) (h : 1099511627776 ≤ b) (hb : b ≤ 9223372036854775807) :
    packW [a, 1099511627777, 0, 0] headWs = packW [a, wrap64 (b + 1), 0, 0] headWs ∧ packE [a, 1099511627777, 0, 0] headWs = packE [a, wrap64 (b + 1), 0, 0] headWs := by
  have hp : pw 32 = 4294967296 := by simp [pw]
  have g1 : ¬ okTo [a, 1099511627777, 0, 0] headWs headWs.length := okTo_not (k := 1) (by decide) (by simp [headWs, hp])
  have g2 : ¬ okTo [a, wrap64 (b + 1), 0, 0] headWs headWs.length := okTo_not (k := 1) (by decide) (by simp only [headWs, List.getD_cons_succ, List.getD_cons_zero, hp]; unfold wrap64; omega)
  rw [packW_no g1, packW_no g2, packE_no g1, packE_no g2]
  exact ⟨rfl, rfl⟩
theorem conn_clamp (a b c d : Int) (h : 1099511627776 ≤ b) :
    packW [a, 1099511627776, c, d] connWs = packW [a, b, c, d] connWs ∧ packE [a, 1099511627776, c, d] connWs = packE [a, b, c, d] connWs := by
  have hp : pw 5 = 32 := by simp [pw]
  have g1 : ¬ okTo [a, 1099511627776, c, d] connWs connWs.length := okTo_not (k := 1) (by decide) (by simp [connWs, hp])
  have g2 : ¬ okTo [a, b, c, d] connWs connWs.length := okTo_not (k := 1) (by decide) (by simp only [connWs, List.getD_cons_succ, List.getD_cons_zero, hp]; omega)
  rw [packW_no g1, packW_no g2, packE_no g1, packE_no g2]
  exact ⟨rfl, rfl⟩

/-- a list laid in the last but one block, widths in the last. -/
theorem hasInts_first (w : World) (cs ds : Array Value) (S T : TypeId) (b n : Nat) (ls : List Int) (hb : b = w.heap.size) (h : ∀ i, i < n → cs[i]? = some (.int .i64 (ls.getD i 0))) :
    HasInts ((w.alloc (.cells cs S)).alloc (.cells ds T)) b n ls := by
  subst hb
  intro i hi
  rw [World.cell?_alloc_lt _ _ _ (by simp), World.cell?_alloc_new, h i hi]
theorem hasInts_second (w : World) (cs : Array Value) (T : TypeId) (b n : Nat) (ls : List Int) (hb : b = w.heap.size) (h : ∀ i, i < n → cs[i]? = some (.int .i64 (ls.getD i 0))) :
    HasInts (w.alloc (.cells cs T)) b n ls := by
  subst hb
  intro i hi
  rw [World.cell?_alloc_new, h i hi]

theorem cells2 (x0 x1 y z : Int) : ∀ i, i < 2 → (#[Value.int .i64 x0, .int .i64 x1])[i]? = some (.int .i64 ([x0, x1, y, z].getD i 0)) := by
  intro i hi
  rcases i with _ | _ | i
  · rfl
  · rfl
  · omega
theorem cells3 (x0 x1 x2 z : Int) : ∀ i, i < 3 → (#[Value.int .i64 x0, .int .i64 x1, .int .i64 x2])[i]? = some (.int .i64 ([x0, x1, x2, z].getD i 0)) := by
  intro i hi
  rcases i with _ | _ | _ | i
  · rfl
  · rfl
  · rfl
  · omega
theorem bd2 {x0 x1 y z : Int} (h0 : I64 x0) (h1 : I64 x1) : ∀ i, i < 2 → I64 ([x0, x1, y, z].getD i 0) := by
  intro i hi
  rcases i with _ | _ | i
  · exact h0
  · exact h1
  · omega
theorem bd3 {x0 x1 x2 z : Int} (h0 : I64 x0) (h1 : I64 x1) (h2 : I64 x2) : ∀ i, i < 3 → I64 ([x0, x1, x2, z].getD i 0) := by
  intro i hi
  rcases i with _ | _ | _ | i
  · exact h0
  · exact h1
  · exact h2
  · omega
theorem bd4 {x0 x1 x2 x3 : Int} (h0 : I64 x0) (h1 : I64 x1) (h2 : I64 x2) (h3 : I64 x3) : ∀ i, i < 4 → I64 ([x0, x1, x2, x3].getD i 0) := by
  intro i hi
  rcases i with _ | _ | _ | _ | i
  · exact h0
  · exact h1
  · exact h2
  · exact h3
  · omega

/-- what the second number is in a round. -/
def slot1 (b : Int) (k : Nat) : Int := if k ≤ 3 then b else if 1099511627776 ≤ b then 1099511627776 else b
theorem slot1_lo (b : Int) (k : Nat) (h : k ≤ 3) : slot1 b k = b := if_pos h
theorem slot1_hi (b : Int) (k : Nat) (h : 4 ≤ k) (g : 1099511627776 ≤ b) : slot1 b k = 1099511627776 := by unfold slot1; rw [if_neg (by omega), if_pos g]
theorem slot1_in (b : Int) (k : Nat) (g : ¬ 1099511627776 ≤ b) : slot1 b k = b := by unfold slot1; rw [if_neg g]; split <;> rfl

theorem below_two' {n : Nat} {W0 w w7 : World} {o p : Obj} (h : Below n W0 w) (hn : n ≤ W0.heap.size) (g : Dr ((w.alloc o).alloc p) w7) : Below n W0 w7 :=
  ((h.alloc (Nat.le_trans hn h.size) o).alloc (by have := h.size; simp; omega) p).trans g.below

/-- the five words and errors, laid. -/
structure Five (s h k i x e0 e1 e2 e3 e4 : Int) (n : Nat) (w : World) : Prop where
  c0 : w.cell? ⟨n, 0, none⟩ = some (.int .u64 s)
  c1 : w.cell? ⟨n, 1, none⟩ = some (.int .u64 h)
  c2 : w.cell? ⟨n, 2, none⟩ = some (.int .u64 k)
  c3 : w.cell? ⟨n, 3, none⟩ = some (.int .u64 i)
  c4 : w.cell? ⟨n, 4, none⟩ = some (.int .u64 x)
  d0 : w.cell? ⟨n + 1, 0, none⟩ = some (.int .i64 e0)
  d1 : w.cell? ⟨n + 1, 1, none⟩ = some (.int .i64 e1)
  d2 : w.cell? ⟨n + 1, 2, none⟩ = some (.int .i64 e2)
  d3 : w.cell? ⟨n + 1, 3, none⟩ = some (.int .i64 e3)
  d4 : w.cell? ⟨n + 1, 4, none⟩ = some (.int .i64 e4)

theorem Five.of {s h k i x e0 e1 e2 e3 e4 : Int} {n : Nat} {w w' : World} (f : Five s h k i x e0 e1 e2 e3 e4 n w) (g : Below (n + 2) w w') : Five s h k i x e0 e1 e2 e3 e4 n w' := by
  obtain ⟨c0, c1, c2, c3, c4, d0, d1, d2, d3, d4⟩ := f
  constructor
  all_goals rw [g.cell (by dsimp only; omega)]
  all_goals assumption

theorem five_laid (s h k i x e0 e1 e2 e3 e4 : Int) (w : World) (S T : TypeId) : Five s h k i x e0 e1 e2 e3 e4 w.heap.size
    ((w.alloc (.cells #[.int .u64 s, .int .u64 h, .int .u64 k, .int .u64 i, .int .u64 x] S)).alloc (.cells #[.int .i64 e0, .int .i64 e1, .int .i64 e2, .int .i64 e3, .int .i64 e4] T)) := by
  constructor
  all_goals simp

set_option maxRecDepth 100000 in
set_option maxHeartbeats 1000000 in
theorem packs_law (a b c d : Int) (w : World) (ha : I64 a) (hb : I64 b) (hc : I64 c) (hd : I64 d) :
    Calls Try.prog 4 #[.int .i64 a, .int .i64 b, .int .i64 c, .int .i64 d] w fun e w' => e = .returned (.bool true) ∧ Below w.heap.size w w' := by
  go_enter Try.func4, Try.ntmps4
  go_wp2_with fail
  refine (speaks_any _).mono ?_
  rintro e w1 ⟨rfl, hbel⟩
  have HB1 := Lib.hid hbel
  clear hbel
  go_wp2_with fail
  refine (state_word _ _ _ _ ha hb hc).mono ?_
  rintro e w2 ⟨rfl, hbel⟩
  have HB2 := Lib.hid (HB1.out.trans (hbel.mono HB1.out.size))
  clear hbel HB1
  go_wp2_with fail
  refine (home_word _ _ _ _ ha hb hc).mono ?_
  rintro e w3 ⟨rfl, hbel⟩
  have HB3 := Lib.hid (HB2.out.trans (hbel.mono HB2.out.size))
  clear hbel HB2
  go_wp2_with fail
  refine (key_word _ _ _ _ ha hb hc).mono ?_
  rintro e w4 ⟨rfl, hbel⟩
  have HB4 := Lib.hid (HB3.out.trans (hbel.mono HB3.out.size))
  clear hbel HB3
  go_wp2_with fail
  refine (head_word _ _ _ ha).mono ?_
  rintro e w5 ⟨rfl, hbel⟩
  have HB5 := Lib.hid (HB4.out.trans (hbel.mono HB4.out.size))
  clear hbel HB4
  go_wp2_with fail
  refine (conn_word _ _ _ _ _ ha hb hc hd).mono ?_
  rintro e w6 ⟨rfl, hbel⟩
  have HB6 := Lib.hid (HB5.out.trans (hbel.mono HB5.out.size))
  clear hbel HB5
  go_wp2_with fail
  have HCl := Lib.hid (fun h => head_clamp a b h hb.2)
  have HCc := Lib.hid (fun h => conn_clamp a b c d h)
  generalize qvs : packW [a, b, c, 0] stateWs = vs at *
  generalize qes : packE [a, b, c, 0] stateWs = es at *
  have Qvs := Lib.hid qvs
  have Qes := Lib.hid qes
  clear qvs qes
  generalize qvh : packW [a, b, c, 0] homeWs = vh at *
  generalize qeh : packE [a, b, c, 0] homeWs = eh at *
  have Qvh := Lib.hid qvh
  have Qeh := Lib.hid qeh
  clear qvh qeh
  generalize qvi : packW [a, wrap64 (b + 1), 0, 0] headWs = vi at *
  generalize qei : packE [a, wrap64 (b + 1), 0, 0] headWs = ei at *
  have Qvi := Lib.hid qvi
  have Qei := Lib.hid qei
  clear qvi qei
  generalize qvx : packW [a, b, c, d] connWs = vx at *
  generalize qex : packE [a, b, c, d] connWs = ex at *
  have Qvx := Lib.hid qvx
  have Qex := Lib.hid qex
  clear qvx qex
  have F0 := five_laid vs vh vh vi vx es eh eh ei ex w6 22 23
  have hz := (((HB6.out).alloc HB6.out.size (.cells #[.int .u64 vs, .int .u64 vh, .int .u64 vh, .int .u64 vi, .int .u64 vx] 22)).alloc (by have := HB6.out.size; simp; omega) (.cells #[.int .i64 es, .int .i64 eh, .int .i64 eh, .int .i64 ei, .int .i64 ex] 23))
  have hN : w6.heap.size + 2 ≤ ((w6.alloc (.cells #[.int .u64 vs, .int .u64 vh, .int .u64 vh, .int .u64 vi, .int .u64 vx] 22)).alloc (.cells #[.int .i64 es, .int .i64 eh, .int .i64 eh, .int .i64 ei, .int .i64 ex] 23)).heap.size := by simp
  have hwN := HB6.out.size
  generalize (w6.alloc (.cells #[.int .u64 vs, .int .u64 vh, .int .u64 vh, .int .u64 vi, .int .u64 vx] 22)).alloc (.cells #[.int .i64 es, .int .i64 eh, .int .i64 eh, .int .i64 ei, .int .i64 ex] 23) = W0 at *
  clear HB6
  generalize w6.heap.size = N at *
  have HF := Lib.hid F0
  have HZ := Lib.hid hz
  have HN := Lib.hid hN
  clear F0 hz hN
  go_loopw [1, 79] (fun v1 i W => ∃ k : Nat, k ≤ 5 ∧ i = .int .i64 k ∧ v1 = .int .i64 (slot1 b k) ∧ Below (N + 2) W0 W) (fun _ i _ => 5 - (intOf i).toNat)
  case atStart => exact ⟨0, by omega, rfl, rfl, Below.refl _ _⟩
  case round =>
    obtain ⟨k, hk, rfl, rfl, hbel⟩ := hrel
    have HB := Lib.hid hbel
    clear hbel
    rcases (by omega : k = 0 ∨ k = 1 ∨ k = 2 ∨ k = 3 ∨ k = 4 ∨ k = 5) with rfl | rfl | rfl | rfl | rfl | rfl
    · have e1 : slot1 b 0 = b := slot1_lo _ _ (by omega)
      rw [e1]
      clear e1
      go_wp2_with fail
      refine (widths_state _).mono ?_
      rintro e w7 ⟨rfl, rfl⟩
      go_wp2_with fail
      refine (rword_any [a, b, c, 0] stateWs 3 _ _ _ _ _ rfl wide_state (by omega) (hasInts_first _ _ _ _ _ _ _ _ (by simp) (cells3 _ _ _ _)) (hasInts_second _ _ _ _ _ _ (by simp) (pair3 _ _ _)) (bd3 ha hb hc)).mono ?_
      rintro e w8 ⟨rfl, hdr⟩
      rw [Qvs.out, Qes.out]
      have HB8 := Lib.hid (below_two' HB.out HN.out hdr)
      clear hdr
      obtain ⟨c0, c1, c2, c3, c4, d0, d1, d2, d3, d4⟩ := HF.out.of HB8.out
      go_wp2
      go_roundw
      case rel => exact ⟨1, by omega, rfl, val_int (Eq.symm (slot1_lo _ _ (by omega))), HB8.out⟩
      case measure => simp [intOf]
    · have e1 : slot1 b 1 = b := slot1_lo _ _ (by omega)
      rw [e1]
      clear e1
      go_wp2_with fail
      refine (widths_home _ (by omega) _).mono ?_
      rintro e w7 ⟨rfl, rfl⟩
      go_wp2_with fail
      refine (rword_any [a, b, c, 0] homeWs 3 _ _ _ _ _ rfl wide_home (by omega) (hasInts_first _ _ _ _ _ _ _ _ (by simp) (cells3 _ _ _ _)) (hasInts_second _ _ _ _ _ _ (by simp) (pair3 _ _ _)) (bd3 ha hb hc)).mono ?_
      rintro e w8 ⟨rfl, hdr⟩
      rw [Qvh.out, Qeh.out]
      have HB8 := Lib.hid (below_two' HB.out HN.out hdr)
      clear hdr
      obtain ⟨c0, c1, c2, c3, c4, d0, d1, d2, d3, d4⟩ := HF.out.of HB8.out
      go_wp2
      go_roundw
      case rel => exact ⟨2, by omega, rfl, val_int (Eq.symm (slot1_lo _ _ (by omega))), HB8.out⟩
      case measure => simp [intOf]
    · have e1 : slot1 b 2 = b := slot1_lo _ _ (by omega)
      rw [e1]
      clear e1
      go_wp2_with fail
      refine (widths_home _ (by omega) _).mono ?_
      rintro e w7 ⟨rfl, rfl⟩
      go_wp2_with fail
      refine (rword_any [a, b, c, 0] homeWs 3 _ _ _ _ _ rfl wide_home (by omega) (hasInts_first _ _ _ _ _ _ _ _ (by simp) (cells3 _ _ _ _)) (hasInts_second _ _ _ _ _ _ (by simp) (pair3 _ _ _)) (bd3 ha hb hc)).mono ?_
      rintro e w8 ⟨rfl, hdr⟩
      rw [Qvh.out, Qeh.out]
      have HB8 := Lib.hid (below_two' HB.out HN.out hdr)
      clear hdr
      obtain ⟨c0, c1, c2, c3, c4, d0, d1, d2, d3, d4⟩ := HF.out.of HB8.out
      go_wp2
      go_roundw
      case rel => exact ⟨3, by omega, rfl, val_int (Eq.symm (slot1_lo _ _ (by omega))), HB8.out⟩
      case measure => simp [intOf]
    · by_cases h40 : 1099511627776 ≤ b
      · obtain ⟨z1, z2⟩ := HCl.out h40
        have Z1 := Lib.hid z1
        have Z2 := Lib.hid z2
        clear z1 z2
        have e1 : slot1 b 3 = b := slot1_lo _ _ (by omega)
        rw [e1]
        clear e1
        go_wp2_with fail
        refine (widths_head _).mono ?_
        rintro e w7 ⟨rfl, rfl⟩
        go_wp2_with fail
        refine (rword_any [a, 1099511627777, 0, 0] headWs 2 _ _ _ _ _ rfl wide_head (by omega) (hasInts_first _ _ _ _ _ _ _ _ (by simp) (cells2 _ _ _ _)) (hasInts_second _ _ _ _ _ _ (by simp) (pair2 _ _)) (bd2 ha ⟨by omega, by omega⟩)).mono ?_
        rintro e w8 ⟨rfl, hdr⟩
        rw [Z1.out, Z2.out]
        have HB8 := Lib.hid (below_two' (HB.out.alloc (Nat.le_trans HN.out HB.out.size) _) HN.out hdr)
        clear hdr
        obtain ⟨c0, c1, c2, c3, c4, d0, d1, d2, d3, d4⟩ := HF.out.of HB8.out
        go_wp2
        go_roundw
        case rel => exact ⟨4, by omega, rfl, val_int (Eq.symm (slot1_hi _ _ (by omega) (by assumption))), HB8.out⟩
        case measure => simp [intOf]
      · have z1 : wrap64 (b + 1) = b + 1 := by unfold wrap64; omega
        have Z1 := Lib.hid z1
        clear z1
        have e1 : slot1 b 3 = b := slot1_lo _ _ (by omega)
        rw [e1]
        clear e1
        go_wp2_with fail
        refine (widths_head _).mono ?_
        rintro e w7 ⟨rfl, rfl⟩
        go_wp2_with fail
        refine (rword_any [a, b + 1, 0, 0] headWs 2 _ _ _ _ _ rfl wide_head (by omega) (hasInts_first _ _ _ _ _ _ _ _ (by simp) (cells2 _ _ _ _)) (hasInts_second _ _ _ _ _ _ (by simp) (pair2 _ _)) (bd2 ha ⟨by omega, by omega⟩)).mono ?_
        rintro e w8 ⟨rfl, hdr⟩
        rw [← Z1.out, Qvi.out, Qei.out]
        have HB8 := Lib.hid (below_two' (HB.out.alloc (Nat.le_trans HN.out HB.out.size) _) HN.out hdr)
        clear hdr
        obtain ⟨c0, c1, c2, c3, c4, d0, d1, d2, d3, d4⟩ := HF.out.of HB8.out
        go_wp2
        go_roundw
        case rel => exact ⟨4, by omega, rfl, val_int (Eq.symm (slot1_in _ _ (by omega))), HB8.out⟩
        case measure => simp [intOf]
    · by_cases h40 : 1099511627776 ≤ b
      · obtain ⟨z1, z2⟩ := HCc.out h40
        have Z1 := Lib.hid z1
        have Z2 := Lib.hid z2
        clear z1 z2
        have e1 : slot1 b 4 = 1099511627776 := slot1_hi _ _ (by omega) h40
        rw [e1]
        clear e1
        go_wp2_with fail
        refine (widths_conn _).mono ?_
        rintro e w7 ⟨rfl, rfl⟩
        go_wp2_with fail
        refine (rword_any [a, 1099511627776, c, d] connWs 4 _ _ _ _ _ rfl wide_conn (by omega) (hasInts_first _ _ _ _ _ _ _ _ (by simp) (pair4 _ _ _ _)) (hasInts_second _ _ _ _ _ _ (by simp) (pair4 _ _ _ _)) (bd4 ha ⟨by omega, by omega⟩ hc hd)).mono ?_
        rintro e w8 ⟨rfl, hdr⟩
        rw [Z1.out, Z2.out]
        have HB8 := Lib.hid (below_two' (HB.out.alloc (Nat.le_trans HN.out HB.out.size) _) HN.out hdr)
        clear hdr
        obtain ⟨c0, c1, c2, c3, c4, d0, d1, d2, d3, d4⟩ := HF.out.of HB8.out
        go_wp2
        go_roundw
        case rel => exact ⟨5, by omega, rfl, val_int (Eq.symm (slot1_hi _ _ (by omega) (by assumption))), HB8.out⟩
        case measure => simp [intOf]
      · have e1 : slot1 b 4 = b := slot1_in _ _ h40
        rw [e1]
        clear e1
        go_wp2_with fail
        refine (widths_conn _).mono ?_
        rintro e w7 ⟨rfl, rfl⟩
        go_wp2_with fail
        refine (rword_any [a, b, c, d] connWs 4 _ _ _ _ _ rfl wide_conn (by omega) (hasInts_first _ _ _ _ _ _ _ _ (by simp) (pair4 _ _ _ _)) (hasInts_second _ _ _ _ _ _ (by simp) (pair4 _ _ _ _)) (bd4 ha hb hc hd)).mono ?_
        rintro e w8 ⟨rfl, hdr⟩
        rw [Qvx.out, Qex.out]
        have HB8 := Lib.hid (below_two' (HB.out.alloc (Nat.le_trans HN.out HB.out.size) _) HN.out hdr)
        clear hdr
        obtain ⟨c0, c1, c2, c3, c4, d0, d1, d2, d3, d4⟩ := HF.out.of HB8.out
        go_wp2
        go_roundw
        case rel => exact ⟨5, by omega, rfl, val_int (Eq.symm (slot1_in _ _ (by omega))), HB8.out⟩
        case measure => simp [intOf]
    · go_wp2
      go_ret
      exact ⟨rfl, HZ.out.trans (HB.out.mono (by omega))⟩

end Go.Proofs.Ytihagkngjnblaaa
