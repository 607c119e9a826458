/- Slices of structs of numbers that are handed in. -/
import Derived.Test.YtbkopghghoolmaaArg
import Derived.Deep.Slices
namespace Go.Proofs.Ytbkopghghoolmaa
open Go.RowKit Go.ChangeShapes Go.WideShapes

/-- n structs, whose fields are numbers of the kinds ks: F i j is field j of number i. -/
structure SRow (w : World) (ks : List IntKind) (A : Option Addr) (n : Nat) (F : Nat → Nat → Int) : Prop where
  most : n ≤ maxLen
  wf : ∀ (i j : Nat) (k : IntKind), i < n → ks[j]? = some k → (Lit.int k (F i j)).wf = true
  at_ : 0 < n → ∃ a, A = some a ∧ a.block < w.heap.size ∧ ∀ (i j : Nat) (k : IntKind), i < n → ks[j]? = some k → w.cell? (a.add (i * ks.length + j)) = some (.int k (F i j))

theorem SRow.keep {w w' : World} {ks : List IntKind} {A : Option Addr} {n : Nat} {F : Nat → Nat → Int} {B : Nat} (h : SRow w ks A n F) (hB : w.heap.size ≤ B) (g : Below B w w') : SRow w' ks A n F :=
  ⟨h.most, h.wf, fun hn => by
    obtain ⟨a, e, hb, hc⟩ := h.at_ hn
    exact ⟨a, e, Nat.lt_of_lt_of_le hb g.size, fun i j k hi hk => (g.cell (by rw [add_block]; omega)).trans (hc i j k hi hk)⟩⟩

/-- the number that a cell has. -/
def numAt (w : World) (a : Addr) : Int := match w.cell? a with
  | some (.int _ x) => x
  | _ => 0

section
variable {H : Type} {enc : TypeId × Value → H} {P : Program} {w : World} {base : Nat} {spare : Nat → Bool} {held : Bool}
theorem SRow.opened {t e : TypeId} {fs : Array Field} {ks : List IntKind} {a : Option Addr} {n c : Nat} {d : DataW H} {p : List MemPlace} (ht : P.underlying t = some (.slice e)) (he : P.underlying e = some (.struct fs)) (hl : P.cellsOf e = ks.length) (h0 : 0 < ks.length)
    (hk : ∀ (j : Nat) (k : IntKind), ks[j]? = some k → ∃ f : Field, fs[j]? = some f ∧ f.offset = j ∧ P.cellsOf f.type = 1 ∧ P.underlying f.type = some (.int k))
    (h : DataW.Trod enc P w base spare held t (.slice a n c) d p) : ∃ F, SRow w ks a n F := by
  obtain ⟨fuel, hf⟩ := h
  rcases Go.Deep.open_slice ht hf with ⟨hcs, _⟩ | ⟨x, len, cap, m, nn, D, Pl, hcs, _, hlc, hm, hmm, _, hi⟩
  · simp [Value.cells] at hcs
    obtain ⟨rfl, rfl, rfl⟩ := hcs
    exact ⟨fun _ _ => 0, by simp, fun i j k hi => by omega, fun h => by omega⟩
  · simp [Value.cells] at hcs
    obtain ⟨rfl, rfl, rfl⟩ := hcs
    have hnm : n ≤ m := by rw [hmm]; split <;> omega
    have key : ∀ (i j : Nat) (k : IntKind), i < n → ks[j]? = some k → ∃ y, w.cell? (x.add (i * ks.length + j)) = some (.int k y) ∧ (Lit.int k y).wf = true := by
      intro i j k hin hj
      obtain ⟨cs', hc, ht'⟩ := hi i (by omega)
      rw [hl] at hc
      obtain ⟨ys, n', _, _, hlen, hyl, hg⟩ := DataW.trod_struct he ht'
      obtain ⟨_, hcl, hat⟩ := World.cells?_some hc
      obtain ⟨f, hfj, ho, h1, hu⟩ := hk j k hj
      have hjl : j < ks.length := (List.getElem?_eq_some_iff.1 hj).1
      have hjf : j < fs.size := (Array.getElem?_eq_some_iff.1 hfj).1
      have h2 := hg j f hfj
      rw [ho, h1, List.getElem?_eq_getElem (by omega)] at h2
      obtain ⟨y, hy, _, hw⟩ := DataW.trod_int hu h2
      have h3 : cs'[j]? = some (.int k y) := by
        have h4 : ((cs'.drop j).take 1)[0]? = some (.int k y) := by rw [hy]; rfl
        simpa using h4
      refine ⟨y, ?_, hw⟩
      rw [← Go.Deep.add_add, hat j hjl, h3]
    refine ⟨fun i j => numAt w (x.add (i * ks.length + j)), by omega, fun i j k hin hj => ?_, fun hn => ⟨x, rfl, ?_, fun i j k hin hj => ?_⟩⟩
    · obtain ⟨y, h1, h2⟩ := key i j k hin hj
      simpa [numAt, h1] using h2
    · obtain ⟨y, h1, _⟩ := key 0 0 ks[0] hn (List.getElem?_eq_getElem h0)
      have := cell_block h1
      rwa [add_block] at this
    · obtain ⟨y, h1, h2⟩ := key i j k hin hj
      simp [numAt, h1]
end

theorem i64_of_wf {x : Int} (h : (Lit.int .i64 x).wf = true) : -9223372036854775808 ≤ x ∧ x ≤ 9223372036854775807 := bounds_i64 h

theorem add_past (b : Addr) (j : Nat) : b.add (j + 1) = ⟨b.block, b.off + (j + 1), none⟩ := by unfold Addr.add; simp

end Go.Proofs.Ytbkopghghoolmaa
