/- Contracts: the document's With and Batches. -/
import Derived.Test.YtplbebfiebojhaaR9
namespace Go.Proofs.Ytplbebfiebojhaa
open Go.RowKit

/-- behind With and Batches of the document. -/
def Gives (w : World) (ts : List Int) (e : Ending) (w' : World) : Prop := ∃ v, e = .returned v ∧ Out w v ts w'

theorem withF_yes {xs : List Int} {n : Int} (h : (wst xs n xs.length).2 = true) : withF xs n = (wst xs n xs.length).1 := by unfold withF; rw [if_pos h]
theorem withF_no {xs : List Int} {n : Int} (h : (wst xs n xs.length).2 = false) : withF xs n = (wst xs n xs.length).1 ++ [n] := by unfold withF; rw [h]; rfl

set_option maxRecDepth 100000 in
set_option maxHeartbeats 4000000 in
theorem with_any (A : Option Addr) (k cp : Nat) (xs : List Int) (n : Int) (w : World) (hr : Row w .i64 A k xs) (hn : (Lit.int .i64 n).wf = true) (hk : k ≤ 1000) :
    Calls Try.prog 19 #[.slice A k cp, .int .i64 n] w (Gives w (withF xs n)) := by
  have hln := hr.len
  have hO0 : Out w (.slice (some ⟨w.heap.size, 0, none⟩) 0 0) [] (w.alloc (.cells #[] 3)) :=
    ⟨IRow.lit w [] #[] rfl (Nat.le_refl _) Ints.nil (by simp), (Below.refl _ _).alloc (Nat.le_refl _) _⟩
  go_enter Try.func19, Try.ntmps19
  go_wp2_with fail
  go_loopw [5, 6, 7] (fun v p i W => ∃ m : Nat, m ≤ k ∧ i = .int .i64 m ∧ p = .bool (wst xs n m).2 ∧ Out w v (wst xs n m).1 W) (fun _ _ i _ => k - (intOf i).toNat)
  case atStart => exact ⟨0, by omega, rfl, rfl, hO0⟩
  case round =>
    clear hO0
    obtain ⟨m, hmk, rfl, rfl, hO⟩ := hrel
    have hll := wst_len xs n m
    by_cases hlt : m < k
    · obtain ⟨a, rfl, hab, hcell⟩ := (hr.keep (Nat.le_refl _) hO.be).at_ (by omega)
      have hc := hcell m hlt
      have HS := Lib.hid (wst_succ xs n m)
      have hwx := Ints.get (xs := xs) hr.wf m
      clear hcell
      have hkeep : ∀ W', Below w.heap.size w W' → W'.cell? (a.add m) = some (.int .i64 (xs.getD m 0)) := fun W' hb => by
        obtain ⟨a', e, _, hcc⟩ := (hr.keep (Nat.le_refl _) hb).at_ (by omega)
        cases e; exact hcc m hlt
      generalize xs.getD m 0 = x at *
      generalize wst xs n m = st at *
      obtain ⟨l, p⟩ := st
      simp only at hll hO
      cases p
      · by_cases hnx : n ≤ x
        · by_cases hxn : x = n
          · have HE := Lib.hid (show wstep n x (l, false) = (l ++ [n], true) by unfold wstep; simp [hxn])
            have HX := Lib.hid hxn
            subst hxn
            go_wp2_with (first
              | (at_builtin
                 refine wpList_out hO hn (by omega) (by rfl) (.tmp 25) (.tmp 27) rfl rfl rfl ?_
                 intro v1 w1 hO1
                 have hc1 := hkeep w1 hO1.be
                 clear hO)
              | fail)
            go_roundw
            case rel => exact ⟨m + 1, by omega, by go_num, by rw [HS.out, HE.out], by rw [HS.out, HE.out]; exact hO1⟩
            case measure => simp [intOf]; omega
          · have HE := Lib.hid (show wstep n x (l, false) = (l ++ [n] ++ [x], true) by unfold wstep; simp [hxn, hnx])
            go_wp2_with (first
              | (at_builtin
                 refine wpList_out hO hn (by omega) (by rfl) (.tmp 25) (.tmp 27) rfl rfl rfl ?_
                 intro v1 w1 hO1
                 have hc1 := hkeep w1 hO1.be
                 clear hO)
              | (at_builtin
                 refine wpList_out hO1 hwx (by simp; omega) (by rfl) (.tmp 35) (.tmp 40) rfl rfl rfl ?_
                 intro v2 w2 hO2
                 clear hO1)
              | fail)
            go_roundw
            case rel => exact ⟨m + 1, by omega, by go_num, by rw [HS.out, HE.out], by rw [HS.out, HE.out]; exact hO2⟩
            case measure => simp [intOf]; omega
        · have hxn : x ≠ n := by omega
          have HE := Lib.hid (show wstep n x (l, false) = (l ++ [x], false) by unfold wstep; simp [hxn, hnx])
          go_wp2_with (first
            | (at_builtin
               refine wpList_out hO hwx (by omega) (by rfl) (.tmp 35) (.tmp 40) rfl rfl rfl ?_
               intro v1 w1 hO1
               clear hO)
            | fail)
          go_roundw
          case rel => exact ⟨m + 1, by omega, by go_num, by rw [HS.out, HE.out], by rw [HS.out, HE.out]; exact hO1⟩
          case measure => simp [intOf]; omega
      · by_cases hxn : x = n
        · have HE := Lib.hid (show wstep n x (l, true) = (l, true) by unfold wstep; simp [hxn])
          subst hxn
          go_wp2
          go_roundw
          case rel => exact ⟨m + 1, by omega, by go_num, by rw [HS.out, HE.out], by rw [HS.out, HE.out]; exact hO⟩
          case measure => simp [intOf]; omega
        · have HE := Lib.hid (show wstep n x (l, true) = (l ++ [x], true) by unfold wstep; simp [hxn])
          go_wp2_with (first
            | (at_builtin
               refine wpList_out hO hwx (by omega) (by rfl) (.tmp 35) (.tmp 40) rfl rfl rfl ?_
               intro v1 w1 hO1
               clear hO)
            | fail)
          go_roundw
          case rel => exact ⟨m + 1, by omega, by go_num, by rw [HS.out, HE.out], by rw [HS.out, HE.out]; exact hO1⟩
          case measure => simp [intOf]; omega
    · obtain rfl : m = k := by omega
      have hy := withF_yes (xs := xs) (n := n)
      have hz := withF_no (xs := xs) (n := n)
      rw [hln] at hy hz
      generalize wst xs n m = st at *
      obtain ⟨l, p⟩ := st
      simp only at hll hO
      cases p
      · have HZ := Lib.hid (hz rfl)
        clear hy hz
        go_wp2_with (first
          | (at_builtin
             refine wpList_out hO hn (by omega) (by rfl) (.tmp 44) (.tmp 46) rfl rfl rfl ?_
             intro v1 w1 hO1
             clear hO)
          | fail)
        go_ret
        exact ⟨_, rfl, by rw [HZ.out]; exact hO1⟩
      · have HY := Lib.hid (hy rfl)
        clear hy hz
        go_wp2
        go_ret
        exact ⟨_, rfl, by rw [HY.out]; exact hO⟩

/-- the document's batches of the first m deadlines. -/
def batTo (xs : List Int) (s : Int) : Nat → List Int
  | 0 => []
  | m + 1 => withF (batTo xs s m) (due (xs.getD m 0) s)
theorem batTo_succ (xs : List Int) (s : Int) (m : Nat) : batTo xs s (m + 1) = withF (batTo xs s m) (due (xs.getD m 0) s) := rfl
theorem batTo_rises (xs : List Int) (s : Int) : ∀ m, m ≤ xs.length → Rises (dues (xs.take m) s) (batTo xs s m)
  | 0, _ => ⟨by simp [batTo, dues], by simp [batTo]⟩
  | m + 1, h => by
    have k := withF_rises (n := due (xs.getD m 0) s) (batTo_rises xs s m (by omega))
    rw [batTo_succ, List.take_succ_eq_append_getElem (by omega)]
    unfold dues at *
    rw [List.map_append]
    simpa [List.getD, show m < xs.length by omega] using k
theorem batTo_len (xs : List Int) (s : Int) (m : Nat) (h : m ≤ xs.length) : (batTo xs s m).length ≤ m := by
  have k := batTo_rises xs s m h
  have := nodup_le _ _ (k.up.imp (fun h => by omega)) (fun x hx => (k.mem x).1 hx)
  simp [dues] at this
  omega

set_option maxRecDepth 100000 in
set_option maxHeartbeats 4000000 in
theorem rbatches_any (A : Option Addr) (n cp : Nat) (xs : List Int) (s : Int) (w : World) (hr : Row w .i64 A n xs) (hn : n ≤ 40) :
    Calls Try.prog 15 #[.slice A n cp, .int .i64 s] w (Gives w (batTo xs s n)) := by
  have hln := hr.len
  have hO0 : Out w (.slice (some ⟨w.heap.size, 0, none⟩) 0 0) [] (w.alloc (.cells #[] 3)) :=
    ⟨IRow.lit w [] #[] rfl (Nat.le_refl _) Ints.nil (by simp), (Below.refl _ _).alloc (Nat.le_refl _) _⟩
  go_enter Try.func15, Try.ntmps15
  go_wp2_with fail
  go_loopw [5, 6] (fun v i W => ∃ m : Nat, m ≤ n ∧ i = .int .i64 m ∧ Out w v (batTo xs s m) W) (fun _ i _ => n - (intOf i).toNat)
  case atStart => exact ⟨0, by omega, rfl, hO0⟩
  case round =>
    clear hO0
    obtain ⟨m, hmn, rfl, hO⟩ := hrel
    have hbl := batTo_len xs s m (by omega)
    by_cases hlt : m < n
    · obtain ⟨a, rfl, hab, hcell⟩ := (hr.keep (Nat.le_refl _) hO.be).at_ (by omega)
      have hc := hcell m hlt
      have HS := Lib.hid (batTo_succ xs s m)
      have hwf := wf_due (xs.getD m 0) s
      have c1 := rup_any (xs.getD m 0) s wr
      obtain ⟨A2, cp2, rfl, hr2⟩ := hO.row.row
      have hbe := hO.be
      clear hcell hO
      generalize xs.getD m 0 = x at *
      generalize due x s = d at *
      generalize batTo xs s m = l at *
      have c2 := with_any A2 l.length cp2 l d wr hr2 hwf (by omega)
      clear hr2
      generalize l.length = ln at *
      go_wp2_with fail
      refine c1.mono ?_
      rintro e w1 ⟨rfl, rfl⟩
      clear c1
      go_wp2_with fail
      refine c2.mono ?_
      rintro e w1 ⟨v1, rfl, hO1⟩
      clear c2
      have hO2 : Out w v1 (withF l d) w1 := ⟨hO1.row.from_ hbe.size, hbe.trans (hO1.be.mono hbe.size)⟩
      clear hO1
      go_wp2
      go_roundw
      case rel => exact ⟨m + 1, by omega, by go_num, by rw [HS.out]; exact hO2⟩
      case measure => simp [intOf]; omega
    · obtain rfl : m = n := by omega
      go_wp2
      go_ret
      exact ⟨_, rfl, hO⟩

end Go.Proofs.Ytplbebfiebojhaa
