/- The document's example of layer 7. -/
import Derived.Test.YtbkopghghoolmaaQ10
import Derived.Test.YtbkopghghoolmaaIRow
namespace Go.Proofs.Ytbkopghghoolmaa
open Go.RowKit

/-- what a task of the example still does: a Load, a Store of one more, nothing. -/
inductive SP
  | ld
  | st (v : Int)
  | no

def SP.ended : SP → Bool
  | .no => true
  | _ => false
def SP.step : SP → List Int × Int → SP × (List Int × Int)
  | .ld, s => (.st (getA s.1 0), (s.1, moreA s.1 0 s.2))
  | .st v, s => (.no, (setA s.1 0 (IntKind.u64.wrap (v + 1)), moreA s.1 0 s.2))
  | .no, s => (.no, s)

def SI (p c r : Nat) (s : List Int × Int) (w : World) : Prop := Arena w p c s.1 s.2 ∧ s.2 + r ≤ 4611686018427387904
def SM (B p c : Nat) : Mc (List Int × Int) SP := { ended := SP.ended, step := SP.step, I := SI p c, B := B, L := [p, c], LL := [p, c] }

section
variable {B p c : Nat}
theorem sm_ok : (SM B p c).Ok where
  less r s w h := ⟨h.1, by have := h.2; omega⟩
  task r s w w' k h := ⟨⟨k.lies h.1.head (by simp) (by decide), k.lies h.1.body (by simp) (by decide), h.1.pos, h.1.most, h.1.fit, h.1.k0⟩, h.2⟩
  sub b hb := hb

theorem si_aft {w w' : World} {s : List Int × Int} {q : Nat} {l' : List Int} {k' : Int} (hi : SI p c (q + 1) s w) (h : Aft w p c l' k' w') (hk : k' ≤ s.2 + 1) : SI p c q (l', k') w' := ⟨h.1, by have := hi.2; show k' + _ ≤ _; omega⟩

theorem nothing_any (w : World) : Calls Try.prog 21 #[] w fun e w' => e = .returned .nilFunc ∧ w' = w := by
  go_enter Try.func21, Try.ntmps21
  go_wp2
  go_ret
  exact ⟨rfl, rfl⟩
theorem ent_s1 : Ent 17 := ent_of Try.func17 (by kernel_rfl) (by kernel_rfl)
theorem ent_s2 : Ent 19 := ent_of Try.func19 (by kernel_rfl) (by kernel_rfl)
theorem ent_s3 : Ent 21 := ent_of Try.func21 (by kernel_rfl) (by kernel_rfl)

theorem one2_any (v : Int) (ba : Nat) (w : World) (h : Lies w ba 26 #[ptr p]) :
    Calls Try.prog 19 #[.int .u64 v, ptr ba] w fun e w' => e = .returned (.func (.func 35) #[] #[ptr w.heap.size, ptr (w.heap.size + 1), ptr (w.heap.size + 2), ptr (w.heap.size + 3)]) ∧
      (((w.alloc (.cells #[ptr p] 26)).alloc (.cells #[.int .i64 0] 3)).alloc (.cells #[.int .u64 (IntKind.u64.wrap (v + 1))] 44)).alloc (.cells #[.func (.func 21) #[] #[]] 40) = w' := by
  have c0 := h.cell 0
  simp at c0
  go_enter Try.func19, Try.ntmps19
  go_wp2_with fail
  refine (mkstore_any _ _ _ _ _ _).mono ?_
  rintro e w' ⟨rfl, rfl⟩
  go_wp2
  go_ret
  exact ⟨rfl, rfl⟩

theorem one1_any (ba : Nat) (w : World) (h : Lies w ba 26 #[ptr p]) :
    Calls Try.prog 17 #[ptr ba] w fun e w' => e = .returned (.func (.func 34) #[] #[ptr (w.heap.size + 2), ptr w.heap.size, ptr (w.heap.size + 1)]) ∧
      ((w.alloc (.cells #[ptr p] 26)).alloc (.cells #[.int .i64 0] 3)).alloc (.cells #[.func (.func 19) #[] #[ptr ba]] 56) = w' := by
  have hmf : ∀ (fn : Fn) (first cap : Array Value) (w : World), (Instr.makeFunc fn first cap).run Try.prog w = .ok (.func fn first cap) w := fun _ _ _ _ => rfl
  have c0 := h.cell 0
  simp at c0
  go_enter Try.func17, Try.ntmps17
  go_wp2_with fail
  refine (mkload_any _ _ _ _ _).mono ?_
  rintro e w' ⟨rfl, rfl⟩
  go_wp2
  go_ret
  exact ⟨rfl, rfl⟩

theorem out2 {w : World} (hp : p < w.heap.size) (hc : c < w.heap.size) {b : Nat} (h : w.heap.size ≤ b) : b ∉ [p, c] := fun hm => by simp at hm; omega

theorem aft_moves {w w' : World} {l' : List Int} {k' : Int} (h : Aft w p c l' k' w') : Moves B [p, c] w w' := Moves.of_turns h.2 (fun _ hb => .inl hb)

theorem code_st (m : Nat) (v : Int) (w w' : World) (hp : p < w.heap.size) (hc : c < w.heap.size)
    (e : (((w.alloc (.cells #[ptr p] 26)).alloc (.cells #[.int .i64 0] 3)).alloc (.cells #[.int .u64 (IntKind.u64.wrap (v + 1))] 44)).alloc (.cells #[.func (.func 21) #[] #[]] 40) = w') :
    CodeAt (SM B p c) m (.st v) (.func (.func 35) #[] #[ptr w.heap.size, ptr (w.heap.size + 1), ptr (w.heap.size + 2), ptr (w.heap.size + 3)]) w' := by
  subst e
  cases m with
  | zero => exact .inr ⟨rfl, _, _, rfl⟩
  | succ m =>
    refine .inr ⟨rfl, _, _, rfl, ent_store1, fun w2 s q hm hi => ?_⟩
    have hm : Moves B [p, c] _ w2 := hm
    have hi : SI p c (q + 1) s w2 := hi
    have o := fun b hb => out2 hp hc (b := b) hb
    refine store1_any (x := IntKind.u64.wrap (v + 1)) (i := 0) (k := s.2) ent_s3 (hm.lies ((((Lies.new _ _ _).alloc _).alloc _).alloc _) (o _ (by omega)) (by decide)) (hm.lies (((Lies.new_at _ _ (by simp)).alloc _).alloc _) (o _ (by omega)) (by decide)) (hm.lies ((Lies.new_at _ _ (by simp)).alloc _) (o _ (by omega)) (by decide)) (hm.lies (Lies.new_at _ _ (by simp)) (o _ (by omega)) (by decide)) hi.1 (by have := hi.2; omega) (by unfold N64; rw [IntKind.wrap_u64]; omega) (by simp [SM]) (by simp [SM]) (o _ (by omega)) ?_
    intro w3 h3
    unfold Then
    refine (nothing_any w3).mono ?_
    rintro e w4 ⟨rfl, rfl⟩
    refine ⟨_, rfl, ⟨si_aft hi h3 (moreA_le _ _ _), ?_⟩, Turns.refl _ _⟩
    cases m <;> exact .inl ⟨rfl, rfl⟩

theorem code_ld (m : Nat) (ba : Nat) (w : World) (hp : p < w.heap.size) (hc : c < w.heap.size) (h : Lies w ba 26 #[ptr p]) (hb : ba ∉ [p, c]) :
    Calls Try.prog 17 #[ptr ba] w fun e w' => ∃ v, e = .returned v ∧ CodeAt (SM B p c) m .ld v w' ∧ Below w.heap.size w w' := by
  refine (one1_any ba w h).mono ?_
  rintro e w' ⟨rfl, rfl⟩
  refine ⟨_, rfl, ?_, (((Below.refl _ _).alloc (Nat.le_refl _) _).alloc (by simp) _).alloc (by simp; omega) _⟩
  cases m with
  | zero => exact .inr ⟨rfl, _, _, rfl⟩
  | succ m =>
    refine .inr ⟨rfl, _, _, rfl, ent_load1, fun w2 s q hm hi => ?_⟩
    have hm : Moves B [p, c] _ w2 := hm
    have hi : SI p c (q + 1) s w2 := hi
    have o := fun b hb => out2 hp hc (b := b) hb
    refine load1_any (i := 0) (k := s.2) ent_s2 (hm.lies (Lies.new_at _ _ (by simp)) (o _ (by omega)) (by decide)) (hm.lies (((Lies.new _ _ _).alloc _).alloc _) (o _ (by omega)) (by decide)) (hm.lies ((Lies.new_at _ _ (by simp)).alloc _) (o _ (by omega)) (by decide)) hi.1 (by have := hi.2; omega) (by simp [SM]) (by simp [SM]) (o _ (by omega)) (o _ (by omega)) (o _ (by omega)) ?_
    intro w3 h3
    have hm3 : Moves B [p, c] _ w3 := hm.trans (aft_moves h3)
    have h3b : Lies w3 ba 26 #[ptr p] := hm3.lies (((h.alloc _).alloc _).alloc _) hb (by decide)
    have hsz := hm3.size
    simp only [World.size_alloc] at hsz
    unfold Then
    refine (one2_any _ ba w3 h3b).mono ?_
    rintro e w4 ⟨rfl, rfl⟩
    exact ⟨_, rfl, ⟨si_aft (l' := s.1) hi ⟨h3.1.turn (L := []) (((((Turns.refl [] w3).alloc _).alloc _).alloc _).alloc _) (by simp) (by simp), h3.2.trans (((((Turns.refl _ w3).alloc _).alloc _).alloc _).alloc _)⟩ (moreA_le _ _ _), code_st m _ w3 _ (by omega) (by omega) rfl⟩, ((((Turns.refl _ w3).alloc _).alloc _).alloc _).alloc _⟩
end

end Go.Proofs.Ytbkopghghoolmaa
