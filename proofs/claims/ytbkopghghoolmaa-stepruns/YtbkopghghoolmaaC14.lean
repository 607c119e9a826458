/- Contracts: the document's Do: Load, Store, Swap. -/
import Derived.Test.YtbkopghghoolmaaC13
namespace Go.Proofs.Ytbkopghghoolmaa
open Go.RowKit
variable {Xo : Nat}

set_option maxHeartbeats 1000000 in
theorem rdo_load (g n cp j : Nat) (k o v y : Int) (l : List Int) (w : World) (h : Held Xo w g l) (hn : l.length = n) (hj : j < n) (hk0 : 0 ≤ k) (hk : k < 9223372036854775807) (hy : getA l j = y) :
    Calls Try.prog 44 #[.agg #[.slice (some ⟨g, 0, none⟩) n cp, .int .i64 k], .int .i64 0, .int .i64 j, .int .u64 o, .int .u64 v] w (RDone Xo w n l (k + 1) y false) := by
  have HN := Lib.hid hn
  have HI := Lib.hid (hasA_yes (l := l) (i := j) (by omega))
  have HY := Lib.hid hy
  clear hn hy
  go_enter Try.func44, Try.ntmps44
  go_wp2_with fail
  refine (rhas_any _ _ _ _ _ l _ HN.out).mono ?_
  rintro e w1 ⟨rfl, rfl⟩
  rw [HI.out]
  go_upto_region 4 with (fail)
  have hmid := mid_of w g n cp (k + 1) k l h
  generalize (((w.alloc (.cells #[.slice (some ⟨g, 0, none⟩) n cp, .int .i64 (k + 1)] 32)).alloc (.cells #[.slice none 0 0, .int .i64 0] 32)).alloc (.cells #[.slice (some ⟨g, 0, none⟩) n cp, .int .i64 k] 32)) = W at *
  generalize w.heap.size = S at *
  have HS := Lib.hid hmid.at_
  have s0 := hmid.s.cell 0
  have s1 := hmid.s.cell 1
  have r0 := hmid.r.cell 0
  have r1 := hmid.r.cell 1
  simp at s0 s1 r0 r1
  have sf0 := hmid.s.frozen 0
  have sf1 := hmid.s.frozen 1
  have rf0 := hmid.r.frozen 0
  have rf1 := hmid.r.frozen 1
  have hc := hmid.h.cell j (by rw [HN.out]; exact hj)
  rw [HY.out] at hc
  have hrl := hmid.r.lt
  have hold := hmid.old
  go_wp2
  refine bodyPost_ret (v := .tuple #[.agg #[.slice (some ⟨g, 0, none⟩) n cp, .int .i64 (k + 1)], .int .u64 y, .bool false]) (by simp [results, Try.results44, go_sem, r0, r1]) rfl ⟨g, cp, rfl, ?_, ?_⟩
  · exact (hmid.h.far (p := ⟨S + 1, 0, none⟩) (by simp; omega) _).far (p := ⟨S + 1, 1, none⟩) (by simp; omega) _
  · have hb := hmid.be
    rw [HS.out] at hb ⊢
    exact (hb.setCell (p := ⟨S + 1, 0, none⟩) (by simp) _).setCell (p := ⟨S + 1, 1, none⟩) (by simp) _

set_option maxHeartbeats 1000000 in
theorem rdo_store (g n cp j : Nat) (k o v y : Int) (l : List Int) (w : World) (h : Held Xo w g l) (hn : l.length = n) (hj : j < n) (hm : n ≤ 1048576) (hk0 : 0 ≤ k) (hk : k < 9223372036854775807) (hf : ∀ x, x ∈ l → N64 x) (hy : getA l j = y) (hne : (v != y) = true) :
    Calls Try.prog 44 #[.agg #[.slice (some ⟨g, 0, none⟩) n cp, .int .i64 k], .int .i64 1, .int .i64 j, .int .u64 o, .int .u64 v] w (RDone Xo w n (l.set j v) (k + 1) 0 true) := by
  have HN := Lib.hid hn
  have HI := Lib.hid (hasA_yes (l := l) (i := j) (by omega))
  have HY := Lib.hid hy
  clear hn hy
  go_enter Try.func44, Try.ntmps44
  go_wp2_with fail
  refine (rhas_any _ _ _ _ _ l _ HN.out).mono ?_
  rintro e w1 ⟨rfl, rfl⟩
  rw [HI.out]
  go_upto_region 4 with (fail)
  have hmid := mid_of w g n cp (k + 1) k l h
  generalize (((w.alloc (.cells #[.slice (some ⟨g, 0, none⟩) n cp, .int .i64 (k + 1)] 32)).alloc (.cells #[.slice none 0 0, .int .i64 0] 32)).alloc (.cells #[.slice (some ⟨g, 0, none⟩) n cp, .int .i64 k] 32)) = W at *
  generalize w.heap.size = S at *
  have HS := Lib.hid hmid.at_
  have s0 := hmid.s.cell 0
  have s1 := hmid.s.cell 1
  have r0 := hmid.r.cell 0
  have r1 := hmid.r.cell 1
  simp at s0 s1 r0 r1
  have sf0 := hmid.s.frozen 0
  have sf1 := hmid.s.frozen 1
  have rf0 := hmid.r.frozen 0
  have rf1 := hmid.r.frozen 1
  have hc := hmid.h.cell j (by rw [HN.out]; exact hj)
  rw [HY.out] at hc
  have hrl := hmid.r.lt
  have hold := hmid.old
  have hrow := hmid.h.row hf (by rw [HN.out]; exact hm)
  rw [HN.out] at hrow
  have s0a := (hmid.s.alloc (.cells #[] 44)).cell 0
  simp at s0a
  go_wp2_with (first
    | (at_builtin
       refine wpList_copied rfl (.tmp 51) (.tmp 53) rfl rfl rfl hrow (Below.refl _ _) (by omega) (by omega) ?_
       intro g2 cap w2 hg2 ho2 hr2 hb2
       have t0 := (hb2.cell (p := ⟨S, 0, none⟩) (by simp; omega)).trans s0
       have t1 := (hb2.cell (p := ⟨S, 1, none⟩) (by simp; omega)).trans s1
       have u0 := (hb2.cell (p := ⟨S + 1, 0, none⟩) hrl).trans r0
       have u1 := (hb2.cell (p := ⟨S + 1, 1, none⟩) hrl).trans r1
       have tf0 := (hb2.frozen (p := ⟨S, 0, none⟩) (by simp; omega)).trans sf0
       have tf1 := (hb2.frozen (p := ⟨S, 1, none⟩) (by simp; omega)).trans sf1
       have uf0 := (hb2.frozen (p := ⟨S + 1, 0, none⟩) hrl).trans rf0
       have uf1 := (hb2.frozen (p := ⟨S + 1, 1, none⟩) hrl).trans rf1
       have hq := Held.made ho2 hr2 hmid.h hg2 hb2
       have qc := hq.cell j (by rw [HN.out]; exact hj)
       have qf := hq.frozen j
       have n1 : ¬ S = g2 := by omega
       have n2 : ¬ g2 = S := by omega
       have n3 : ¬ S + 1 = g2 := by omega
       have n4 : ¬ g2 = S + 1 := by omega
       clear s0 s1 r0 r1 sf0 sf1 rf0 rf1 hc hrow)
    | fail)
  refine bodyPost_ret (v := .tuple #[.agg #[.slice (some ⟨g2, 0, none⟩) n cap, .int .i64 (k + 1)], .int .u64 0, .bool true]) (by simp [results, Try.results44, go_sem, u0, u1]) rfl ⟨g2, cap, rfl, ?_, ?_⟩
  · exact (((hq.far (p := ⟨S, 0, none⟩) n2 _).set j _).far (p := ⟨S + 1, 0, none⟩) n4 _).far (p := ⟨S + 1, 1, none⟩) n4 _
  · have hb := hmid.be
    rw [HS.out] at hb ⊢
    have hsz := hb.size
    rw [HS.out] at hsz
    exact ((((hb.trans (hb2.mono hsz)).setCell (p := ⟨S, 0, none⟩) (Nat.le_refl _) _).setCell (p := ⟨g2, j, none⟩) (by simp; omega) _).setCell (p := ⟨S + 1, 0, none⟩) (by simp) _).setCell (p := ⟨S + 1, 1, none⟩) (by simp) _

set_option maxHeartbeats 1000000 in
theorem rdo_store_same (g n cp j : Nat) (k o y : Int) (l : List Int) (w : World) (h : Held Xo w g l) (hn : l.length = n) (hj : j < n) (hk0 : 0 ≤ k) (hk : k < 9223372036854775807) (hy : getA l j = y) :
    Calls Try.prog 44 #[.agg #[.slice (some ⟨g, 0, none⟩) n cp, .int .i64 k], .int .i64 1, .int .i64 j, .int .u64 o, .int .u64 y] w (RDone Xo w n l (k + 1) 0 true) := by
  have HN := Lib.hid hn
  have HI := Lib.hid (hasA_yes (l := l) (i := j) (by omega))
  have HY := Lib.hid hy
  clear hn hy
  go_enter Try.func44, Try.ntmps44
  go_wp2_with fail
  refine (rhas_any _ _ _ _ _ l _ HN.out).mono ?_
  rintro e w1 ⟨rfl, rfl⟩
  rw [HI.out]
  go_upto_region 4 with (fail)
  have hmid := mid_of w g n cp (k + 1) k l h
  generalize (((w.alloc (.cells #[.slice (some ⟨g, 0, none⟩) n cp, .int .i64 (k + 1)] 32)).alloc (.cells #[.slice none 0 0, .int .i64 0] 32)).alloc (.cells #[.slice (some ⟨g, 0, none⟩) n cp, .int .i64 k] 32)) = W at *
  generalize w.heap.size = S at *
  have HS := Lib.hid hmid.at_
  have s0 := hmid.s.cell 0
  have s1 := hmid.s.cell 1
  have r0 := hmid.r.cell 0
  have r1 := hmid.r.cell 1
  simp at s0 s1 r0 r1
  have sf0 := hmid.s.frozen 0
  have sf1 := hmid.s.frozen 1
  have rf0 := hmid.r.frozen 0
  have rf1 := hmid.r.frozen 1
  have hc := hmid.h.cell j (by rw [HN.out]; exact hj)
  rw [HY.out] at hc
  have hrl := hmid.r.lt
  have hold := hmid.old
  go_wp2
  refine bodyPost_ret (v := .tuple #[.agg #[.slice (some ⟨g, 0, none⟩) n cp, .int .i64 (k + 1)], .int .u64 0, .bool true]) (by simp [results, Try.results44, go_sem, r0, r1]) rfl ⟨g, cp, rfl, ?_, ?_⟩
  · exact (hmid.h.far (p := ⟨S + 1, 0, none⟩) (by simp; omega) _).far (p := ⟨S + 1, 1, none⟩) (by simp; omega) _
  · have hb := hmid.be
    rw [HS.out] at hb ⊢
    exact (hb.setCell (p := ⟨S + 1, 0, none⟩) (by simp) _).setCell (p := ⟨S + 1, 1, none⟩) (by simp) _

set_option maxHeartbeats 1000000 in
theorem rdo_swap (g n cp j : Nat) (k o v y : Int) (l : List Int) (w : World) (h : Held Xo w g l) (hn : l.length = n) (hj : j < n) (hm : n ≤ 1048576) (hk0 : 0 ≤ k) (hk : k < 9223372036854775807) (hf : ∀ x, x ∈ l → N64 x) (hy : getA l j = y) (hne : (v != y) = true) :
    Calls Try.prog 44 #[.agg #[.slice (some ⟨g, 0, none⟩) n cp, .int .i64 k], .int .i64 2, .int .i64 j, .int .u64 o, .int .u64 v] w (RDone Xo w n (l.set j v) (k + 1) y false) := by
  have HN := Lib.hid hn
  have HI := Lib.hid (hasA_yes (l := l) (i := j) (by omega))
  have HY := Lib.hid hy
  clear hn hy
  go_enter Try.func44, Try.ntmps44
  go_wp2_with fail
  refine (rhas_any _ _ _ _ _ l _ HN.out).mono ?_
  rintro e w1 ⟨rfl, rfl⟩
  rw [HI.out]
  go_upto_region 4 with (fail)
  have hmid := mid_of w g n cp (k + 1) k l h
  generalize (((w.alloc (.cells #[.slice (some ⟨g, 0, none⟩) n cp, .int .i64 (k + 1)] 32)).alloc (.cells #[.slice none 0 0, .int .i64 0] 32)).alloc (.cells #[.slice (some ⟨g, 0, none⟩) n cp, .int .i64 k] 32)) = W at *
  generalize w.heap.size = S at *
  have HS := Lib.hid hmid.at_
  have s0 := hmid.s.cell 0
  have s1 := hmid.s.cell 1
  have r0 := hmid.r.cell 0
  have r1 := hmid.r.cell 1
  simp at s0 s1 r0 r1
  have sf0 := hmid.s.frozen 0
  have sf1 := hmid.s.frozen 1
  have rf0 := hmid.r.frozen 0
  have rf1 := hmid.r.frozen 1
  have hc := hmid.h.cell j (by rw [HN.out]; exact hj)
  rw [HY.out] at hc
  have hrl := hmid.r.lt
  have hold := hmid.old
  have hrow := hmid.h.row hf (by rw [HN.out]; exact hm)
  rw [HN.out] at hrow
  have s0a := (hmid.s.alloc (.cells #[] 44)).cell 0
  simp at s0a
  go_wp2_with (first
    | (at_builtin
       refine wpList_copied rfl (.tmp 51) (.tmp 53) rfl rfl rfl hrow (Below.refl _ _) (by omega) (by omega) ?_
       intro g2 cap w2 hg2 ho2 hr2 hb2
       have t0 := (hb2.cell (p := ⟨S, 0, none⟩) (by simp; omega)).trans s0
       have t1 := (hb2.cell (p := ⟨S, 1, none⟩) (by simp; omega)).trans s1
       have u0 := (hb2.cell (p := ⟨S + 1, 0, none⟩) hrl).trans r0
       have u1 := (hb2.cell (p := ⟨S + 1, 1, none⟩) hrl).trans r1
       have tf0 := (hb2.frozen (p := ⟨S, 0, none⟩) (by simp; omega)).trans sf0
       have tf1 := (hb2.frozen (p := ⟨S, 1, none⟩) (by simp; omega)).trans sf1
       have uf0 := (hb2.frozen (p := ⟨S + 1, 0, none⟩) hrl).trans rf0
       have uf1 := (hb2.frozen (p := ⟨S + 1, 1, none⟩) hrl).trans rf1
       have hq := Held.made ho2 hr2 hmid.h hg2 hb2
       have qc := hq.cell j (by rw [HN.out]; exact hj)
       have qf := hq.frozen j
       have n1 : ¬ S = g2 := by omega
       have n2 : ¬ g2 = S := by omega
       have n3 : ¬ S + 1 = g2 := by omega
       have n4 : ¬ g2 = S + 1 := by omega
       clear s0 s1 r0 r1 sf0 sf1 rf0 rf1 hc hrow)
    | fail)
  refine bodyPost_ret (v := .tuple #[.agg #[.slice (some ⟨g2, 0, none⟩) n cap, .int .i64 (k + 1)], .int .u64 y, .bool false]) (by simp [results, Try.results44, go_sem, u0, u1]) rfl ⟨g2, cap, rfl, ?_, ?_⟩
  · exact (((hq.far (p := ⟨S, 0, none⟩) n2 _).set j _).far (p := ⟨S + 1, 0, none⟩) n4 _).far (p := ⟨S + 1, 1, none⟩) n4 _
  · have hb := hmid.be
    rw [HS.out] at hb ⊢
    have hsz := hb.size
    rw [HS.out] at hsz
    exact ((((hb.trans (hb2.mono hsz)).setCell (p := ⟨S, 0, none⟩) (Nat.le_refl _) _).setCell (p := ⟨g2, j, none⟩) (by simp; omega) _).setCell (p := ⟨S + 1, 0, none⟩) (by simp) _).setCell (p := ⟨S + 1, 1, none⟩) (by simp) _

set_option maxHeartbeats 1000000 in
theorem rdo_swap_same (g n cp j : Nat) (k o y : Int) (l : List Int) (w : World) (h : Held Xo w g l) (hn : l.length = n) (hj : j < n) (hk0 : 0 ≤ k) (hk : k < 9223372036854775807) (hy : getA l j = y) :
    Calls Try.prog 44 #[.agg #[.slice (some ⟨g, 0, none⟩) n cp, .int .i64 k], .int .i64 2, .int .i64 j, .int .u64 o, .int .u64 y] w (RDone Xo w n l (k + 1) y false) := by
  have HN := Lib.hid hn
  have HI := Lib.hid (hasA_yes (l := l) (i := j) (by omega))
  have HY := Lib.hid hy
  clear hn hy
  go_enter Try.func44, Try.ntmps44
  go_wp2_with fail
  refine (rhas_any _ _ _ _ _ l _ HN.out).mono ?_
  rintro e w1 ⟨rfl, rfl⟩
  rw [HI.out]
  go_upto_region 4 with (fail)
  have hmid := mid_of w g n cp (k + 1) k l h
  generalize (((w.alloc (.cells #[.slice (some ⟨g, 0, none⟩) n cp, .int .i64 (k + 1)] 32)).alloc (.cells #[.slice none 0 0, .int .i64 0] 32)).alloc (.cells #[.slice (some ⟨g, 0, none⟩) n cp, .int .i64 k] 32)) = W at *
  generalize w.heap.size = S at *
  have HS := Lib.hid hmid.at_
  have s0 := hmid.s.cell 0
  have s1 := hmid.s.cell 1
  have r0 := hmid.r.cell 0
  have r1 := hmid.r.cell 1
  simp at s0 s1 r0 r1
  have sf0 := hmid.s.frozen 0
  have sf1 := hmid.s.frozen 1
  have rf0 := hmid.r.frozen 0
  have rf1 := hmid.r.frozen 1
  have hc := hmid.h.cell j (by rw [HN.out]; exact hj)
  rw [HY.out] at hc
  have hrl := hmid.r.lt
  have hold := hmid.old
  go_wp2
  refine bodyPost_ret (v := .tuple #[.agg #[.slice (some ⟨g, 0, none⟩) n cp, .int .i64 (k + 1)], .int .u64 y, .bool false]) (by simp [results, Try.results44, go_sem, r0, r1]) rfl ⟨g, cp, rfl, ?_, ?_⟩
  · exact (hmid.h.far (p := ⟨S + 1, 0, none⟩) (by simp; omega) _).far (p := ⟨S + 1, 1, none⟩) (by simp; omega) _
  · have hb := hmid.be
    rw [HS.out] at hb ⊢
    exact (hb.setCell (p := ⟨S + 1, 0, none⟩) (by simp) _).setCell (p := ⟨S + 1, 1, none⟩) (by simp) _

end Go.Proofs.Ytbkopghghoolmaa
