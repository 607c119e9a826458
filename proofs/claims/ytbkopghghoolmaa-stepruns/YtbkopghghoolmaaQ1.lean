/- Calls of function values; the steps of layer 7. -/
import Derived.Test.YtbkopghghoolmaaC8
import Derived.Test.YtbkopghghoolmaaCopy
import Derived.Deep.RegionHeld3
import Derived.Deep.DeepCutAuto
import Derived.WalkKit
namespace Go.Proofs.Ytbkopghghoolmaa
open Go.RowKit

/-- a function that has a body. -/
def Ent (f : FuncId) : Prop := ∀ (args : Array Value) (W : World), (callFunc f args).run Try.prog W = .ok (.enter f args) W

/-- f, called with these, tells a value of which (and of the world then) Q holds; of what was there blocks of L alone are written. -/
def Then (f : FuncId) (args : Array Value) (w : World) (L : List Nat) (Q : Value → World → Prop) : Prop :=
  Calls Try.prog f args w fun e w' => ∃ v, e = .returned v ∧ Q v w' ∧ Turns L w w'

theorem Aft.undrew {p c : Nat} {l : List Int} {k : Int} {w w' : World} (h : Aft w.drew p c l k w') : Aft w p c l k w' := ⟨h.1, ((Turns.refl [p, c] w).drew).trans h.2⟩
theorem Aft.into {p c : Nat} {l : List Int} {k : Int} {w w' : World} {L : List Nat} (h : Aft w p c l k w') (hp : p ∈ L) (hc : c ∈ L) : Turns L w w' :=
  h.2.more fun b hb => by simp at hb; rcases hb with rfl | rfl <;> exact .inl ‹_›

section
variable {p c : Nat} {l : List Int} {k i : Int} {f b0 b1 b2 b3 b4 : Nat} {cap : Array Value} {L : List Nat} {Q : Value → World → Prop} {w : World}
theorem load1_any (hE : Ent f)
    (h0 : Lies w b0 56 #[.func (.func f) #[] cap]) (h1 : Lies w b1 26 #[.pointer (some ⟨p, 0, none⟩)]) (h2 : Lies w b2 3 #[.int .i64 i])
    (ha : Arena w p c l k) (hk : k < 9223372036854775807) (hp : p ∈ L) (hc : c ∈ L) (n0 : b0 ∉ L) (n1 : b1 ∉ L) (n2 : b2 ∉ L)
    (ht : ∀ w', Aft w p c l (moreA l i k) w' → Then f (#[.int .u64 (getA l i)] ++ cap) w' L Q) :
    Then 34 #[.pointer (some ⟨b0, 0, none⟩), .pointer (some ⟨b1, 0, none⟩), .pointer (some ⟨b2, 0, none⟩)] w L Q := by
  have c0 := h0.cell 0
  have c1 := h1.cell 0
  have c2 := h2.cell 0
  simp at c0 c1 c2
  have g0 := h0.lt
  have g1 := h1.lt
  have g2 := h2.lt
  unfold Then Ent at *
  go_enter Try.func34, Try.ntmps34
  go_wp2_with fail
  go_region_held3 (fun W' => W'.cell? ⟨b0, 0, none⟩ = some (.func (.func f) #[] cap) ∧ W'.cell? ⟨b1, 0, none⟩ = some (.pointer (some ⟨p, 0, none⟩)) ∧ W'.cell? ⟨b2, 0, none⟩ = some (.int .i64 i))
    (first | exact ⟨c0, c1, c2⟩ | exact ⟨d0, d1, d2⟩ | exact ⟨u0, u1, u2⟩)
    (first
      | (go_at_call 22
         refine (load_any i ha.drew hk).mono ?_
         rintro e w1 ⟨rfl, a1⟩
         have a1 := a1.undrew
         have t1 := a1.into hp hc
         have d0 := (t1.cell (p := ⟨b0, 0, none⟩) g0 n0).trans c0
         have d1 := (t1.cell (p := ⟨b1, 0, none⟩) g1 n1).trans c1
         have d2 := (t1.cell (p := ⟨b2, 0, none⟩) g2 n2).trans c2)
      | (refine (ht _ a1).mono ?_
         rintro e w2 ⟨v, rfl, hq, t2⟩
         have t3 := t1.trans t2
         have u0 := (t3.cell (p := ⟨b0, 0, none⟩) g0 n0).trans c0
         have u1 := (t3.cell (p := ⟨b1, 0, none⟩) g1 n1).trans c1
         have u2 := (t3.cell (p := ⟨b2, 0, none⟩) g2 n2).trans c2))
  go_wp2
  go_ret
  exact ⟨v, rfl, hq, t3⟩

theorem store1_any {x : Int} (hE : Ent f) (h0 : Lies w b0 26 #[.pointer (some ⟨p, 0, none⟩)]) (h1 : Lies w b1 3 #[.int .i64 i]) (h2 : Lies w b2 44 #[.int .u64 x]) (h3 : Lies w b3 40 #[.func (.func f) #[] cap])
    (ha : Arena w p c l k) (hk : k < 9223372036854775807) (hx : N64 x) (hp : p ∈ L) (hc : c ∈ L) (n3 : b3 ∉ L)
    (ht : ∀ w', Aft w p c (setA l i x) (moreA l i k) w' → Then f cap w' L Q) :
    Then 35 #[.pointer (some ⟨b0, 0, none⟩), .pointer (some ⟨b1, 0, none⟩), .pointer (some ⟨b2, 0, none⟩), .pointer (some ⟨b3, 0, none⟩)] w L Q := by
  have c0 := h0.cell 0
  have c1 := h1.cell 0
  have c2 := h2.cell 0
  have c3 := h3.cell 0
  simp at c0 c1 c2 c3
  have g3 := h3.lt
  unfold Then Ent at *
  go_enter Try.func35, Try.ntmps35
  go_wp2_with fail
  refine (store_any i x hx ha hk).mono ?_
  rintro e w1 ⟨rfl, a1⟩
  have t1 := a1.into hp hc
  have d3 := (t1.cell (p := ⟨b3, 0, none⟩) g3 n3).trans c3
  go_wp2_with fail
  refine (ht _ a1).mono ?_
  rintro e w2 ⟨v, rfl, hq, t2⟩
  go_wp2
  go_ret
  exact ⟨v, rfl, hq, t1.trans t2⟩

theorem idle1_any (hE : Ent f) (h0 : Lies w b0 40 #[.func (.func f) #[] cap]) (ht : Then f cap w L Q) :
    Then 42 #[.pointer (some ⟨b0, 0, none⟩)] w L Q := by
  have c0 := h0.cell 0
  simp at c0
  unfold Then Ent at *
  go_enter Try.func42, Try.ntmps42
  go_wp2_with fail
  refine ht.mono ?_
  rintro e w2 ⟨v, rfl, hq, t2⟩
  go_wp2
  go_ret
  exact ⟨v, rfl, hq, t2⟩


theorem swap1_any {x : Int} (hE : Ent f) (h0 : Lies w b0 56 #[.func (.func f) #[] cap]) (h1 : Lies w b1 26 #[.pointer (some ⟨p, 0, none⟩)]) (h2 : Lies w b2 3 #[.int .i64 i]) (h3 : Lies w b3 44 #[.int .u64 x])
    (ha : Arena w p c l k) (hk : k < 9223372036854775807) (hx : N64 x) (hp : p ∈ L) (hc : c ∈ L) (n0 : b0 ∉ L) (n1 : b1 ∉ L) (n2 : b2 ∉ L) (n3 : b3 ∉ L)
    (ht : ∀ w', Aft w p c (setA l i x) (moreA l i k) w' → Then f (#[.int .u64 (getA l i)] ++ cap) w' L Q) :
    Then 38 #[.pointer (some ⟨b0, 0, none⟩), .pointer (some ⟨b1, 0, none⟩), .pointer (some ⟨b2, 0, none⟩), .pointer (some ⟨b3, 0, none⟩)] w L Q := by
  have c0 := h0.cell 0
  have c1 := h1.cell 0
  have c2 := h2.cell 0
  have c3 := h3.cell 0
  simp at c0 c1 c2 c3
  have g0 := h0.lt
  have g1 := h1.lt
  have g2 := h2.lt
  have g3 := h3.lt
  unfold Then Ent at *
  go_enter Try.func38, Try.ntmps38
  go_wp2_with fail
  go_region_held3 (fun W' => W'.cell? ⟨b0, 0, none⟩ = some (.func (.func f) #[] cap) ∧ W'.cell? ⟨b1, 0, none⟩ = some (.pointer (some ⟨p, 0, none⟩)) ∧ W'.cell? ⟨b2, 0, none⟩ = some (.int .i64 i) ∧ W'.cell? ⟨b3, 0, none⟩ = some (.int .u64 x))
    (first | exact ⟨c0, c1, c2, c3⟩ | exact ⟨d0, d1, d2, d3⟩ | exact ⟨u0, u1, u2, u3⟩)
    (first
      | (go_at_call 39
         refine (swap_any i x hx ha.drew hk).mono ?_
         rintro e w1 ⟨rfl, a1⟩
         have a1 := a1.undrew
         have t1 := a1.into hp hc
         have d0 := (t1.cell (p := ⟨b0, 0, none⟩) g0 n0).trans c0; have d1 := (t1.cell (p := ⟨b1, 0, none⟩) g1 n1).trans c1; have d2 := (t1.cell (p := ⟨b2, 0, none⟩) g2 n2).trans c2; have d3 := (t1.cell (p := ⟨b3, 0, none⟩) g3 n3).trans c3)
      | (refine (ht _ a1).mono ?_
         rintro e w2 ⟨v, rfl, hq, t2⟩
         have t3 := t1.trans t2
         have u0 := (t3.cell (p := ⟨b0, 0, none⟩) g0 n0).trans c0; have u1 := (t3.cell (p := ⟨b1, 0, none⟩) g1 n1).trans c1; have u2 := (t3.cell (p := ⟨b2, 0, none⟩) g2 n2).trans c2; have u3 := (t3.cell (p := ⟨b3, 0, none⟩) g3 n3).trans c3))
  go_wp2
  go_ret
  exact ⟨v, rfl, hq, t3⟩

theorem cas1_any {o x : Int} (hE : Ent f) (h0 : Lies w b0 72 #[.func (.func f) #[] cap]) (h1 : Lies w b1 26 #[.pointer (some ⟨p, 0, none⟩)]) (h2 : Lies w b2 3 #[.int .i64 i]) (h3 : Lies w b3 44 #[.int .u64 o]) (h4 : Lies w b4 44 #[.int .u64 x])
    (ha : Arena w p c l k) (hk : k < 9223372036854775807) (hx : N64 x) (hp : p ∈ L) (hc : c ∈ L) (n0 : b0 ∉ L) (n1 : b1 ∉ L) (n2 : b2 ∉ L) (n3 : b3 ∉ L) (n4 : b4 ∉ L)
    (ht : ∀ w', Aft w p c (casA l i o x) (moreA l i k) w' → Then f (#[.bool (casB l i o)] ++ cap) w' L Q) :
    Then 40 #[.pointer (some ⟨b0, 0, none⟩), .pointer (some ⟨b1, 0, none⟩), .pointer (some ⟨b2, 0, none⟩), .pointer (some ⟨b3, 0, none⟩), .pointer (some ⟨b4, 0, none⟩)] w L Q := by
  have c0 := h0.cell 0
  have c1 := h1.cell 0
  have c2 := h2.cell 0
  have c3 := h3.cell 0
  have c4 := h4.cell 0
  simp at c0 c1 c2 c3 c4
  have g0 := h0.lt
  have g1 := h1.lt
  have g2 := h2.lt
  have g3 := h3.lt
  have g4 := h4.lt
  unfold Then Ent at *
  go_enter Try.func40, Try.ntmps40
  go_wp2_with fail
  go_region_held3 (fun W' => W'.cell? ⟨b0, 0, none⟩ = some (.func (.func f) #[] cap) ∧ W'.cell? ⟨b1, 0, none⟩ = some (.pointer (some ⟨p, 0, none⟩)) ∧ W'.cell? ⟨b2, 0, none⟩ = some (.int .i64 i) ∧ W'.cell? ⟨b3, 0, none⟩ = some (.int .u64 o) ∧ W'.cell? ⟨b4, 0, none⟩ = some (.int .u64 x))
    (first | exact ⟨c0, c1, c2, c3, c4⟩ | exact ⟨d0, d1, d2, d3, d4⟩ | exact ⟨u0, u1, u2, u3, u4⟩)
    (first
      | (go_at_call 41
         refine (cas_any i o x hx ha.drew hk).mono ?_
         rintro e w1 ⟨rfl, a1⟩
         have a1 := a1.undrew
         have t1 := a1.into hp hc
         have d0 := (t1.cell (p := ⟨b0, 0, none⟩) g0 n0).trans c0; have d1 := (t1.cell (p := ⟨b1, 0, none⟩) g1 n1).trans c1; have d2 := (t1.cell (p := ⟨b2, 0, none⟩) g2 n2).trans c2; have d3 := (t1.cell (p := ⟨b3, 0, none⟩) g3 n3).trans c3; have d4 := (t1.cell (p := ⟨b4, 0, none⟩) g4 n4).trans c4)
      | (refine (ht _ a1).mono ?_
         rintro e w2 ⟨v, rfl, hq, t2⟩
         have t3 := t1.trans t2
         have u0 := (t3.cell (p := ⟨b0, 0, none⟩) g0 n0).trans c0; have u1 := (t3.cell (p := ⟨b1, 0, none⟩) g1 n1).trans c1; have u2 := (t3.cell (p := ⟨b2, 0, none⟩) g2 n2).trans c2; have u3 := (t3.cell (p := ⟨b3, 0, none⟩) g3 n3).trans c3; have u4 := (t3.cell (p := ⟨b4, 0, none⟩) g4 n4).trans c4))
  go_wp2
  go_ret
  exact ⟨v, rfl, hq, t3⟩
end

end Go.Proofs.Ytbkopghghoolmaa
