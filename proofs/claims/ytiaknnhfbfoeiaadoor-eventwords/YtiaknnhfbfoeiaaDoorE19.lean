/- Events, plain facts: where blanks stand in a text. -/
import Derived.Test.YtiaknnhfbfoeiaaDoorE16
import Derived.PlainAid
namespace Go.Proofs.YtiaknnhfbfoeiaaDoor
open Go.PlainAid
set_option maxRecDepth 100000

/-- no line feed; a blank is neither first nor last, and has no blank behind it. -/
def Spaced (l : List UInt8) : Prop := ∀ (i : Nat) (d : UInt8), l[i]? = some d → d ≠ 10 ∧ (d = 32 → i ≠ 0 ∧ ∃ e, l[i + 1]? = some e ∧ e ≠ 32)
theorem spaced_word {z : List UInt8} (h : Wd z) : Spaced z := fun i d hd => by
  have hm := List.mem_of_getElem? hd
  exact ⟨fun e => h.2.2 (e ▸ hm), fun e => absurd (e ▸ hm) h.2.1⟩
theorem spaced_cons {z M : List UInt8} (h : Wd z) (hM : Spaced M) (hne : M ≠ []) : Spaced (z ++ 32 :: M) := fun i d hd => by
  rcases Nat.lt_trichotomy i z.length with hi | hi | hi
  · rw [List.getElem?_append_left hi] at hd
    have hm := List.mem_of_getElem? hd
    exact ⟨fun e => h.2.2 (e ▸ hm), fun e => absurd (e ▸ hm) h.2.1⟩
  · subst hi
    rw [List.getElem?_append_right (Nat.le_refl _), Nat.sub_self] at hd
    have hd : (32 : UInt8) = d := by simpa using hd
    subst hd
    refine ⟨by decide, fun _ => ⟨fun e => h.1 (List.length_eq_zero_iff.1 e), ?_⟩⟩
    rw [List.getElem?_append_right (by omega), show z.length + 1 - z.length = 0 + 1 by omega, List.getElem?_cons_succ]
    obtain ⟨a, t, rfl⟩ := List.exists_cons_of_ne_nil hne
    refine ⟨a, rfl, fun e => ?_⟩
    exact ((hM 0 a rfl).2 e).1 rfl
  · obtain ⟨j, rfl⟩ : ∃ j, i = z.length + 1 + j := ⟨i - z.length - 1, by omega⟩
    rw [List.getElem?_append_right (by omega), show z.length + 1 + j - z.length = j + 1 by omega, List.getElem?_cons_succ] at hd
    obtain ⟨h1, h2⟩ := hM j d hd
    refine ⟨h1, fun e => ⟨by omega, ?_⟩⟩
    obtain ⟨_, e', he, hn⟩ := h2 e
    refine ⟨e', ?_, hn⟩
    rw [List.getElem?_append_right (by omega), show z.length + 1 + j + 1 - z.length = (j + 1) + 1 by omega, List.getElem?_cons_succ]
    exact he
theorem spaced_all : ∀ (r : List (List UInt8)) (z : List UInt8), (∀ y, y ∈ z :: r → Wd y) → Spaced (z ++ Lib.joinTail [32] r)
  | [], z, h => by
    rw [show Lib.joinTail [32] [] = [] from rfl, List.append_nil]
    exact spaced_word (h z (by simp))
  | a :: r, z, h => by
    rw [tail_cons]
    refine spaced_cons (h z (by simp)) (spaced_all r a fun y hy => h y (by simp [List.mem_cons.1 hy])) fun e => ?_
    exact (h a (by simp)).1 (List.append_eq_nil_iff.1 e).1

theorem line_right {x : Ev} (h : x.rightC = true) : Spaced (lineC x) ∧ ∃ R, R ≠ [] ∧ lineC x = kN.getD x.k.toNat [] ++ 32 :: R := by
  have h1 := words_wd h
  have h2 := words_two h
  unfold lineC
  rw [if_pos h]
  rw [words_cons] at h1 h2 ⊢
  rw [Lib.join_cons]
  refine ⟨spaced_all _ _ h1, ?_⟩
  generalize (pc (fb x.fl 1) (Lib.itoa x.w) ++ _ : List (List UInt8)) = r at *
  cases r with
  | nil => simp at h2
  | cons a r =>
    refine ⟨a ++ Lib.joinTail [32] r, fun e => (h1 a (by simp)).1 (List.append_eq_nil_iff.1 e).1, ?_⟩
    rw [tail_cons]
theorem bt_mk (l : List UInt8) (k : Nat) (hk : k < l.length) : ∃ d, l[k]? = some d ∧ bt ⟨l.toArray⟩ k = (d.toNat : Int) := by
  refine ⟨l[k], List.getElem?_eq_getElem hk, ?_⟩
  unfold bt
  rw [dif_pos (show k < ByteArray.size ⟨l.toArray⟩ from by show k < l.toArray.size; simpa using hk)]
  rfl
/-- as the law's loop asks. -/
theorem spaced_bt {l : List UInt8} (h : Spaced l) : ∀ k, k < l.length → bt ⟨l.toArray⟩ k ≠ 10 ∧ (bt ⟨l.toArray⟩ k = 32 → k ≠ 0 ∧ k + 1 < l.length ∧ bt ⟨l.toArray⟩ (k + 1) ≠ 32) := by
  intro k hk
  obtain ⟨d, h1, h2⟩ := bt_mk l k hk
  rw [h2]
  obtain ⟨h3, h4⟩ := h k d h1
  refine ⟨fun e => h3 (UInt8.toNat_inj.1 (by have : d.toNat = 10 := by omega
                                             simpa using this)), fun e => ?_⟩
  obtain ⟨h5, e', h6, h7⟩ := h4 (UInt8.toNat_inj.1 (by have : d.toNat = 32 := by omega
                                                       simpa using this))
  have hk1 : k + 1 < l.length := (List.getElem?_eq_some_iff.1 h6).1
  obtain ⟨d2, h8, h9⟩ := bt_mk l (k + 1) hk1
  rw [h6] at h8
  injection h8 with h8
  subst h8
  refine ⟨h5, hk1, fun e => h7 (UInt8.toNat_inj.1 ?_)⟩
  rw [h9] at e
  have : e'.toNat = 32 := by omega
  simpa using this
theorem pre_of (a R : List UInt8) : ((⟨(a ++ R).toArray⟩ : ByteArray).extract 0 a.length).toList = a := by
  rw [ByteArray.toList_eq]
  simp [ByteArray.extract, ByteArray.copySlice]

end Go.Proofs.YtiaknnhfbfoeiaaDoor
