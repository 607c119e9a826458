/- The code of acts: what its closures do. -/
import Derived.Test.YtbkopghghoolmaaQ6
import Derived.RegionTactic
namespace Go.Proofs.Ytbkopghghoolmaa
open Go.RowKit

/-- where the rest of a slice begins. -/
def tailA (a : Addr) (cp : Nat) : Option Addr := if cp = 1 then some a else some (a.add 4)
theorem slice_tail (a : Addr) (n cp : Nat) (hn : 0 < n) (W : World) : (Instr.slice 37 (.slice (some a) n cp) (some (.int .i64 1)) none none).run Try.prog W = .ok (.slice (tailA a cp) (n - 1) (cp - 1)) W := by
  have h4 : (Try.prog.info? 69).map (·.size) = some 4 := by kernel_rfl
  obtain ⟨i, hi, hz⟩ := Option.map_eq_some_iff.1 h4
  unfold tailA
  by_cases h1 : cp = 1
  · simp [Instr.slice, run_underlying Try.underlying37, Instr.sliceBounds, Instr.sliceBound, asIntOf, sizeOf, typeInfo, hi, hz, h1]
    intro h; omega
  · simp [Instr.slice, run_underlying Try.underlying37, Instr.sliceBounds, Instr.sliceBound, asIntOf, sizeOf, typeInfo, hi, hz, h1]
    intro h; omega
theorem sliceAt_tail (a : Addr) (n cp : Nat) (hn : 0 < n) (W : World) : (Instr.sliceAt 37 (.slice (some a) n cp) (some (.int .i64 1)) none none).run Try.prog W = .ok (.slice (tailA a cp) (n - 1) (cp - 1)) W := by
  have h := slice_tail a n cp hn W
  simp only [Instr.sliceAt, Sem.run_bind, run_underlying Try.underlying37, Result.andThen_ok]
  exact h

theorem ent_rest : Ent 23 := ent_of Try.func23 (by kernel_rfl) (by kernel_rfl)
theorem ent_told : Ent 24 := ent_of Try.func24 (by kernel_rfl) (by kernel_rfl)
theorem ent_told0 : Ent 25 := ent_of Try.func25 (by kernel_rfl) (by kernel_rfl)
theorem ent_toldb : Ent 28 := ent_of Try.func28 (by kernel_rfl) (by kernel_rfl)

section
variable {L : List Nat} {Q : Value → World → Prop} {w : World} {ba bl bs br bt : Nat}
theorem rest_any {p : Addr} {a : Addr} {S : Addr} {n cp : Nat} (ha : Lies w ba 26 #[.pointer (some p)]) (hl : Lies w bl 37 #[.slice (some a) n cp]) (hs : Lies w bs 43 #[.pointer (some S)]) (hn : 0 < n)
    (nA : ba ∉ L) (nl : bl ∉ L) (ns : bs ∉ L)
    (ht : Then 9 #[.pointer (some p), .slice (tailA a cp) (n - 1) (cp - 1), .pointer (some S)] w.drew L Q) :
    Then 23 #[ptr ba, ptr bl, ptr bs] w L Q := by
  have c0 := ha.cell 0
  have c1 := hl.cell 0
  have c2 := hs.cell 0
  simp at c0 c1 c2
  have g0 := ha.lt
  have g1 := hl.lt
  have g2 := hs.lt
  have hsl := sliceAt_tail a n cp hn
  generalize tailA a cp = A' at *
  generalize n - 1 = n1 at *
  generalize cp - 1 = cp1 at *
  unfold Then at *
  go_enter Try.func23, Try.ntmps23
  go_wp2_with fail
  go_region_held3 (fun W' => W'.cell? ⟨ba, 0, none⟩ = some (.pointer (some p)) ∧ W'.cell? ⟨bl, 0, none⟩ = some (.slice (some a) n cp) ∧ W'.cell? ⟨bs, 0, none⟩ = some (.pointer (some S)))
    (first | exact ⟨c0, c1, c2⟩ | exact ⟨u0, u1, u2⟩)
    (first
      | (go_at_call 9
         refine ht.mono ?_
         rintro e w2 ⟨v, rfl, hq, t2⟩
         have t3 := ((Turns.refl L w).drew).trans t2
         have u0 := (t3.cell (p := ⟨ba, 0, none⟩) g0 nA).trans c0
         have u1 := (t3.cell (p := ⟨bl, 0, none⟩) g1 nl).trans c1
         have u2 := (t3.cell (p := ⟨bs, 0, none⟩) g2 ns).trans c2))
  go_wp2
  go_ret
  exact ⟨v, rfl, hq, t3⟩

theorem told_any {x y : Int} {S : Addr} {f : FuncId} {cap : Array Value} (hE : Ent f) (hs : Lies w bs 43 #[.pointer (some S)]) (hr : Lies w br 40 #[.func (.func f) #[] cap])
    (hc : w.cell? S = some (.int .u64 y)) (hf : w.frozen? S = false) (nR : S.block ≠ br) (hS : S.block ∈ L)
    (ht : Then f cap ((w.setCell S (.int .u64 (IntKind.u64.wrap (IntKind.u64.wrap (y * 3) + x)))).drew) L Q) :
    Then 24 #[.int .u64 x, ptr bs, ptr br] w L Q := by
  have c0 := hs.cell 0
  have c1 := hr.cell 0
  simp at c0 c1
  have k1 : ((w.setCell S (.int .u64 (IntKind.u64.wrap (IntKind.u64.wrap (y * 3) + x)))).drew).cell? ⟨br, 0, none⟩ = some (.func (.func f) #[] cap) := by
    have h1 := (hr.far (p := S) (fun e => nR e.symm) (.int .u64 (IntKind.u64.wrap (IntKind.u64.wrap (y * 3) + x)))).drew.cell 0
    simpa using h1
  unfold Then Ent at *
  go_enter Try.func24, Try.ntmps24
  go_wp2_with fail
  go_region
  go_wp2_with fail
  refine ht.mono ?_
  rintro e w2 ⟨v, rfl, hq, t2⟩
  go_wp2
  go_ret
  exact ⟨v, rfl, hq, (((Turns.refl L w).setCell (.inl hS) _).drew).trans t2⟩

theorem told0_any {f : FuncId} {cap : Array Value} (hE : Ent f) (ht0 : Lies w bt 56 #[.func (.func f) #[] cap]) (ht : Then f (#[.int .u64 0] ++ cap) w L Q) :
    Then 25 #[ptr bt] w L Q := by
  have c0 := ht0.cell 0
  simp at c0
  unfold Then Ent at *
  go_enter Try.func25, Try.ntmps25
  go_wp2_with fail
  refine ht.mono ?_
  rintro e w2 ⟨v, rfl, hq, t2⟩
  go_wp2
  go_ret
  exact ⟨v, rfl, hq, t2⟩

theorem toldb_any {f : FuncId} {cap : Array Value} (b : Bool) (hE : Ent f) (ht0 : Lies w bt 56 #[.func (.func f) #[] cap]) (ht : Then f (#[.int .u64 (if b = true then 1 else 0)] ++ cap) w L Q) :
    Then 28 #[.bool b, ptr bt] w L Q := by
  have c0 := ht0.cell 0
  simp at c0
  unfold Then Ent at *
  cases b
  all_goals
    simp only [Bool.false_eq_true, if_false, if_true] at ht
    go_enter Try.func28, Try.ntmps28
    go_wp2_with fail
    refine ht.mono ?_
    rintro e w2 ⟨v, rfl, hq, t2⟩
    go_wp2
    go_ret
    exact ⟨v, rfl, hq, t2⟩
end

end Go.Proofs.Ytbkopghghoolmaa
