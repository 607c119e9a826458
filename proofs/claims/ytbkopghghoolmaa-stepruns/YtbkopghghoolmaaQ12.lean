/- The document's example of layer 7: its walk. -/
import Derived.Test.YtbkopghghoolmaaQ11
namespace Go.Proofs.Ytbkopghghoolmaa
open Go.RowKit

def two (a b : Nat) : Nat → Nat := fun i => if i = 0 then a else b
def sp0 : Cfg (List Int × Int) SP := ⟨([0], 0), fun _ => .ld, fun _ => 0, 0⟩

/-- two tasks, their slice and the picks. -/
structure Sp8 (w : World) (p c ba t0 t1 sl pk : Nat) (W : World) : Prop where
  all : All (SM w.heap.size p c) 5 2 (two t0 t1) sp0 W
  row : TRow W [p, c] (some ⟨sl, 0, none⟩) 2 (two t0 t1)
  picks : RowX W (tsL 2 (two t0 t1) ++ [p, c]) (some ⟨pk, 0, none⟩) 4 [0, 1, 0, 1]
  box : Lies W ba 26 #[ptr p]
  be : Below w.heap.size w W
  slice : Lies W sl 38 #[ptr t0, ptr t1]

section
variable {w : World} {p c ba t0 t1 : Nat} {w3 w5 : World} {v0 v1 : Value}
theorem sp8 {B : Nat} (hB : w.heap.size = B) (hBt : B ≤ t0) (h5 : TaskAt (SM B p c) 5 .ld 0 t0 w5) (ha : Arena w5 p c [0] 0) (hb : Lies w5 ba 26 #[ptr p]) (h1 : CodeAt (SM B p c) 5 .ld v1 w5) (be : Below B w w5) (hp : B ≤ p) (hc : B ≤ c) :
    Sp8 w p c ba t0 w5.heap.size (w5.heap.size + 1) (w5.heap.size + 1 + 1) (((w5.alloc (.cells #[v1, .int .i64 0] 67)).alloc (.cells #[ptr t0, ptr w5.heap.size] 38)).alloc (.cells #[.int .i64 0, .int .i64 1, .int .i64 0, .int .i64 1] 3)) := by
  subst hB
  have hpl := ha.head.lt
  have hcl := ha.body.lt
  have t0l := h5.lt
  have hbe := be.size
  have hLL : ∀ b, b ∈ (SM w.heap.size p c).LL → b < w5.heap.size := fun b hb => by
    have hb : b ∈ [p, c] := hb
    simp at hb
    omega
  have tu : Turns [] w5 (((w5.alloc (.cells #[v1, .int .i64 0] 67)).alloc (.cells #[ptr t0, ptr w5.heap.size] 38)).alloc (.cells #[.int .i64 0, .int .i64 1, .int .i64 0, .int .i64 1] 3)) := (((Turns.refl [] w5).alloc _).alloc _).alloc _
  have k1 := TaskAt.made h1 hLL (by show w.heap.size ≤ _; omega)
  have tu1 : Turns [] (w5.alloc (.cells #[v1, .int .i64 0] 67)) (((w5.alloc (.cells #[v1, .int .i64 0] 67)).alloc (.cells #[ptr t0, ptr w5.heap.size] 38)).alloc (.cells #[.int .i64 0, .int .i64 1, .int .i64 0, .int .i64 1] 3)) := ((Turns.refl [] _).alloc _).alloc _
  have k0 := h5.turns tu (Moves.of_turns tu (by simp)) (by simp)
  have k1 := k1.turns tu1 (Moves.of_turns tu1 (by simp)) (by simp)
  have hsl : Lies (((w5.alloc (.cells #[v1, .int .i64 0] 67)).alloc (.cells #[ptr t0, ptr w5.heap.size] 38)).alloc (.cells #[.int .i64 0, .int .i64 1, .int .i64 0, .int .i64 1] 3)) (w5.heap.size + 1) 38 #[ptr t0, ptr w5.heap.size] := (Lies.new_at _ _ (by simp)).alloc _
  have hpk : Lies (((w5.alloc (.cells #[v1, .int .i64 0] 67)).alloc (.cells #[ptr t0, ptr w5.heap.size] 38)).alloc (.cells #[.int .i64 0, .int .i64 1, .int .i64 0, .int .i64 1] 3)) (w5.heap.size + 1 + 1) 3 #[.int .i64 0, .int .i64 1, .int .i64 0, .int .i64 1] := Lies.new_at _ _ (by simp)
  generalize (((w5.alloc (.cells #[v1, .int .i64 0] 67)).alloc (.cells #[ptr t0, ptr w5.heap.size] 38)).alloc (.cells #[.int .i64 0, .int .i64 1, .int .i64 0, .int .i64 1] 3)) = W at *
  refine ⟨⟨fun i hi => ?_, ?_⟩, ⟨by decide, fun i j hi hj e => ?_, fun _ => ⟨_, rfl, hsl.lt, ?_, fun i hi => ?_, fun i hi => ?_⟩⟩, ⟨⟨rfl, by decide, fun x hx => ?_, fun _ => ⟨_, rfl, hpk.lt, fun i hi => ?_⟩⟩, fun _ a e => ?_⟩, hb.turn tu (by simp), be.trans (tu.below (by simp) hbe), hsl⟩
  · match i, hi with
    | 0, _ => exact k0
    | 1, _ => exact k1
  · exact ⟨ha.turn tu (by simp) (by simp), by decide⟩
  · match i, hi, j, hj with
    | 0, _, 0, _ => rfl
    | 1, _, 1, _ => rfl
    | 0, _, 1, _ => simp [two] at e; omega
    | 1, _, 0, _ => simp [two] at e; omega
  · simp; omega
  · match i, hi with
    | 0, _ => simp [two]; omega
    | 1, _ => simp [two]
  · rw [add_head4, hsl.cell i]
    match i, hi with
    | 0, _ => rfl
    | 1, _ => rfl
  · simp at hx
    rcases hx with rfl | rfl | rfl | rfl <;> decide
  · rw [add_head4, hpk.cell i]
    match i, hi with
    | 0, _ => rfl
    | 1, _ => rfl
    | 2, _ => rfl
    | 3, _ => rfl
  · injection e with e
    subst e
    rw [List.mem_append, tsL_mem]
    rintro (⟨i, hi, e⟩ | hm)
    · match i, hi with
      | 0, _ => simp [two] at e; omega
      | 1, _ => simp [two] at e; omega
    · simp at hm; omega
end

set_option maxHeartbeats 2000000 in
theorem speaks7_any (w : World) : Calls Try.prog 4 #[] w fun e w' => e = .returned (.bool true) ∧ Below w.heap.size w w' := by
  have hmf : ∀ (fn : Fn) (first cap : Array Value) (w : World), (Instr.makeFunc fn first cap).run Try.prog w = .ok (.func fn first cap) w := fun _ _ _ _ => rfl
  go_enter Try.func4, Try.ntmps4
  go_wp2_with fail
  refine (new_any 1 w (by omega) (by omega)).mono ?_
  rintro e w1 ⟨rfl, hm1⟩
  obtain ⟨ha1, hb1, hs1⟩ := hm1
  go_upto_region 5 with (fail)
  have hb2 : Below w.heap.size w (w1.alloc (.cells #[ptr (w.heap.size + 1)] 26)) := hb1.alloc (by omega) _
  have ha2 : Arena (w1.alloc (.cells #[ptr (w.heap.size + 1)] 26)) (w.heap.size + 1) w.heap.size [0] 0 := ha1.turn (L := []) ((Turns.refl [] _).alloc _) (by simp) (by simp)
  have hx2 : Lies (w1.alloc (.cells #[ptr (w.heap.size + 1)] 26)) (w.heap.size + 2) 26 #[ptr (w.heap.size + 1)] := Lies.new_at _ _ hs1
  have hs2 : (w1.alloc (.cells #[ptr (w.heap.size + 1)] 26)).heap.size = w.heap.size + 3 := by simp; omega
  generalize (w1.alloc (.cells #[ptr (w.heap.size + 1)] 26)) = w2 at *
  clear ha1 hb1 hs1
  obtain ⟨B, hB⟩ : ∃ B, w.heap.size = B := ⟨_, rfl⟩
  have HB := Lib.hid hB
  rw [hB] at hb2 ha2 hx2 hs2
  simp only [hB]
  clear hB
  go_wp2_with fail
  refine (code_ld (B := B) 5 (B + 2) w2 (p := B + 1) (c := B) (by omega) (by omega) hx2 (by simp)).mono ?_
  rintro e w3 ⟨v0, rfl, hc3, hb3⟩
  have hcode := hc3.code
  go_wp2_with fail
  refine (newtask_any v0 hcode w3).mono ?_
  rintro e w4 ⟨rfl, rfl⟩
  have hs3 := hb3.size
  have hk4 := TaskAt.made (M := SM B (B + 1) B) hc3 (fun b hb => by have hb : b ∈ [B + 1, B] := hb; simp at hb; omega) (by show B ≤ _; omega)
  have hb4 : Below w2.heap.size w2 (w3.alloc (.cells #[v0, .int .i64 0] 67)) := hb3.alloc (by omega) _
  have hs4 : (w3.alloc (.cells #[v0, .int .i64 0] 67)).heap.size = w3.heap.size + 1 := by simp
  generalize (w3.alloc (.cells #[v0, .int .i64 0] 67)) = w4 at *
  generalize ht0 : w3.heap.size = t0 at *
  have hx4 := hx2.below hb4 (by omega)
  have ha4 := ha2.below hb4 (by omega) (by omega)
  have hb4 : Below B w w4 := hb2.trans (hb4.mono (by omega))
  clear hb3 hc3 hcode hx2 ha2 hb2
  go_wp2_with fail
  refine (code_ld (B := B) 5 (B + 2) w4 (p := B + 1) (c := B) (by omega) (by omega) hx4 (by simp)).mono ?_
  rintro e w5 ⟨v1, rfl, hc5, hb5⟩
  have hcode := hc5.code
  have tu5 : Turns [] w4 w5 := Turns.of_below hb5 (Nat.le_refl _)
  have hk5 := hk4.turns tu5 (Moves.of_turns tu5 (by simp)) (by simp)
  have H8 := sp8 HB.out (by omega) hk5 (ha4.turn tu5 (by simp) (by simp)) (hx4.turn tu5 (by simp)) hc5 (hb4.trans (hb5.mono (by omega))) (by omega) (by omega)
  clear hk4 hk5 hx4 ha4 hb4 tu5 hc5
  go_wp2_with fail
  refine (newtask_any v1 hcode w5).mono ?_
  rintro e w6 ⟨rfl, rfl⟩
  go_wp2_with fail
  generalize (((w5.alloc (.cells #[v1, .int .i64 0] 67)).alloc (.cells #[ptr t0, ptr w5.heap.size] 38)).alloc (.cells #[.int .i64 0, .int .i64 1, .int .i64 0, .int .i64 1] 3)) = w8 at *
  have hs5 := hb5.size
  rw [hs4] at hs5
  clear hb5 hs4 hb4
  generalize w5.heap.size = t1 at *
  refine (run_any sm_ok _ _ 2 _ 4 _ _ _ _ w8 H8.row H8.picks H8.all (by omega) rfl (by intro i _; show 0 + 4 < _; omega)).mono ?_
  rintro e w9 ⟨rfl, hr⟩
  have hn : (pickTo (SM w.heap.size (B + 1) B) 2 sp0 [0, 1, 0, 1] 4).n = 4 := by rfl
  rw [hn]
  have hA : SI (B + 1) B 1 ([1], 4) w9 := hr.all.inv
  have hE0 : TaskAt (SM w.heap.size (B + 1) B) 1 .no 2 t0 w9 := hr.all.tk 0 (by omega)
  have hE1 : TaskAt (SM w.heap.size (B + 1) B) 1 .no 2 t1 w9 := hr.all.tk 1 (by omega)
  have nin : ∀ b, b ≠ t0 → b ≠ t1 → b ≠ B + 1 → b ≠ B → b ∉ tsL 2 (two t0 t1) ++ (SM w.heap.size (B + 1) B).L := fun b h1 h2 h3 h4 hm => by
    rw [List.mem_append, tsL_mem] at hm
    rcases hm with ⟨i, hi, e⟩ | hm
    · match i, hi with
      | 0, _ => simp [two] at e; omega
      | 1, _ => simp [two] at e; omega
    · have hm : b ∈ [B + 1, B] := hm
      simp at hm
      omega
  have hbx := H8.box.turn hr.tu (nin _ (by omega) (by omega) (by omega) (by omega))
  have hsl := H8.slice.turn hr.tu (nin _ (by omega) (by omega) (by omega) (by omega))
  have hbe := Lib.hid ((Turns.below (B := B) hr.tu (fun b hm => by
    rw [List.mem_append, tsL_mem] at hm
    rcases hm with ⟨i, hi, e⟩ | hm
    · match i, hi with
      | 0, _ => simp [two] at e; omega
      | 1, _ => simp [two] at e; omega
    · have hm : b ∈ [B + 1, B] := hm
      simp at hm
      omega) (by have := H8.be.size; rw [HB.out] at this; exact this)))
  have hb8 := Lib.hid H8.be
  have q0 := hbx.cell 0
  simp at q0
  clear hr nin H8 hn
  go_wp2_with fail
  refine (load_any 0 hA.1 (by show (4 : Int) < _; omega)).mono ?_
  rintro e w10 ⟨rfl, a10⟩
  rw [show getA ([1], (4 : Int)).1 0 = 1 by rfl]
  have t10 : Turns [B + 1, B] w9 w10 := a10.2
  have m10 : Moves w.heap.size [B + 1, B] w9 w10 := Moves.of_turns t10 (fun _ h => .inl h)
  have hE0 := hE0.turns t10 m10 (by simp; omega)
  have hE1 := hE1.turns t10 m10 (by simp; omega)
  have hsl := hsl.turn t10 (by simp; omega)
  have c0 := ended_any hE0
  have c1 := ended_any hE1
  have s0 := hsl.cell 0
  have s1 := hsl.cell 1
  simp at s0 s1
  have hbe := Lib.hid (hbe.out.trans (t10.below (B := B) (by simp) (by have := (hbx.lt); omega)))
  clear hE0 hE1 hsl t10 m10 a10 hA hbx q0
  go_wp2_with fail
  refine c0.mono ?_
  rintro e w11 ⟨rfl, rfl⟩
  rw [show (SM w.heap.size (B + 1) B).ended .no = true by rfl]
  go_wp2_with fail
  refine c1.mono ?_
  rintro e w11 ⟨rfl, rfl⟩
  rw [show (SM w.heap.size (B + 1) B).ended .no = true by rfl]
  go_wp2
  go_ret
  have h1 := hb8.out
  have h2 := hbe.out
  rw [← HB.out] at h2
  exact ⟨rfl, h1.trans h2⟩

end Go.Proofs.Ytbkopghghoolmaa
