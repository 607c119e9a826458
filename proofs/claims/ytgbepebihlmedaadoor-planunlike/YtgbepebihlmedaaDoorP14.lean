/- Contract: the law's list of all places is 0, 1, 2 .. -/
import Derived.Test.YtgbepebihlmedaaDoorP13
namespace Go.Proofs.YtgbepebihlmedaaDoor
open Go.RowKit

/-- behind 'cells': all places, in new memory. -/
def Listed (w : World) (Z : Nat) (r : Ending) (w' : World) : Prop :=
  ∃ g cap, r = .returned (.slice (some ⟨g, 0, none⟩) Z cap) ∧ w.heap.size < g ∧ g < w'.heap.size ∧ (∀ i, i < Z → w'.cell? ⟨g, i, none⟩ = some (.int .i64 (i : Nat))) ∧ Below w.heap.size w w'

theorem Gat.listed {w : World} {p : Nat} {C : Nat → Int} {v : Value} {Z : Nat} {W : World} (h : Gat w p C v Z W) (hz : 0 < Z) : ∃ g cap, v = .slice (some ⟨g, 0, none⟩) Z cap ∧ w.heap.size < g ∧ g < W.heap.size ∧ (∀ i, i < Z → W.cell? ⟨g, i, none⟩ = some (.int .i64 (i : Nat))) ∧ Below w.heap.size w W := by
  have ho := h.own
  rcases h.own.2 with ⟨_, h0⟩ | ⟨g, cap, cur, rfl, hg, hh, _⟩
  · omega
  · refine ⟨g, cap, rfl, hg, Lies.lt (t := 3) hh, fun i hi => ?_, h.be⟩
    rw [ho.cellAt i (by omega), ids_at hi]

set_option maxRecDepth 100000 in
set_option maxHeartbeats 8000000 in
theorem cells_any (C : Nat → Int) (p : Nat) (w : World) (hp : PlanAt w p C) (hr : Right C) (W L S E N T X : Nat) (hN : Nats C W L S E N T X) :
    Calls Tryd.prog 19 #[.pointer (some ⟨p, 0, none⟩), .agg (ic C)] w (Listed w (3 + W * E + N * 4 + T * 3 + X)) := by
  have HB := Lib.hid (bds hr)
  have hW : W ≤ 64 := by have := (bds hr).c0; have := hN.w; omega
  have hL : L ≤ 8 := by have := (bds hr).c1; have := hN.l; omega
  have hS : S ≤ 64 := by have := (bds hr).s; have := hN.s; omega
  have hE : E ≤ 523 := by have := (bds hr).e; have := hN.plE; omega
  have hNn : N ≤ 4096 := by have := (bds hr).c3; have := hN.n; omega
  have hT : T ≤ 8192 := by have := (bds hr).c4; have := hN.t; omega
  have hX : X ≤ 256 := by have := (bds hr).c7; have := hN.x; omega
  have hWE : W * E ≤ 33472 := Nat.mul_le_mul hW hE
  have HN := Lib.hid hN
  have hpl := hp.lt
  have G0 : Gat w p C (.slice (some ⟨w.heap.size + 1, 0, none⟩) 3 3) 3 ((w.alloc (.cells (ic C) 23)).alloc (.cells #[.int .i64 0, .int .i64 1, .int .i64 2] 3)) := by
    have k1 : Below w.heap.size w (w.alloc (.cells (ic C) 23)) := (Below.refl _ _).alloc (Nat.le_refl _) _
    refine ⟨(hp.keep k1 hpl).turn (L := []) ((Turns.refl _ _).alloc _) (by simp), (Lies.new w _ _).alloc _, ?_, k1.alloc (by simp) _, hpl⟩
    have := World.ownsRow_lit (base := w.heap.size + 1) (e := 3) (size := 1) (w.alloc (.cells (ic C) 23)) #[.int .i64 0, .int .i64 1, .int .i64 2] 3 (by simp) (by simp [maxLen]) (by simp)
    simpa [ids, List.range, List.range.loop] using this
  clear hN
  go_enter Tryd.func19, Tryd.ntmps19
  go_wp2_with fail
  refine (clock_any _ _).mono ?_
  rintro r u ⟨rfl, rfl⟩
  go_wp2_with fail
  refine (nodes_any _ _).mono ?_
  rintro r u ⟨rfl, rfl⟩
  go_wp2_with fail
  refine (tickets_any _ _).mono ?_
  rintro r u ⟨rfl, rfl⟩
  go_upto_region 2 with (fail)
  clear hp
  generalize (w.alloc (.cells (ic C) 23)).alloc (.cells #[.int .i64 0, .int .i64 1, .int .i64 2] 3) = u0 at *
  have c0 := G0.bx.thir.c0
  rw [HN.out.w] at c0
  go_wp2_with fail
  go_loopw [5, 21] (fun v a u => ∃ s : Nat, s ≤ W ∧ a = .int .i64 s ∧ Gat w p C v (3 + s * E) u) (fun _ a _ => W - (intOf a).toNat)
  case atStart => exact ⟨0, by omega, rfl, by simpa using G0⟩
  case round =>
    clear G0 c0
    obtain ⟨s, hs, rfl, G⟩ := hrel
    by_cases hlt : s < W
    · have hsE : s * E + E ≤ W * E := by rw [← Nat.succ_mul]; exact Nat.mul_le_mul_right _ hlt
      have HSS := Lib.hid (Nat.succ_mul s E)
      have HEE := Lib.hid HN.out.e
      obtain ⟨n, hn⟩ : ∃ n, n = 3 + s * E := ⟨_, rfl⟩
      rw [← hn] at G
      have V0 := Lib.hid (show plInbox C s 0 = n by rw [HN.out.inbox s hlt, ← hn]; omega)
      have V1 := Lib.hid (show plInbox C s 1 = n + 1 by rw [HN.out.inbox s hlt, ← hn])
      have V2 := Lib.hid (show plInbox C s 2 = n + 2 by rw [HN.out.inbox s hlt, ← hn])
      have HNN := Lib.hid hn
      have hnb : n + E ≤ 33475 := by omega
      clear hn hsE
      go_wp2_with fail
      refine (inbox_any C p s _ G.pl hr).mono ?_
      rintro r u1 ⟨rfl, q⟩
      have G1 := G.next q
      clear q
      rw [V0.out]
      go_wp2_with fail
      refine (cur_any C p s _ G1.pl hr).mono ?_
      rintro r u2 ⟨rfl, q⟩
      have G2 := G1.next q
      clear q
      rw [V1.out]
      go_wp2_with fail
      refine (over_any C p s _ G2.pl hr).mono ?_
      rintro r u3 ⟨rfl, q⟩
      have G3 := G2.next q
      clear q
      rw [V2.out]
      go_upto_region 7 with (first
        | (at_builtin
           refine wpList_gat G3 _ 3 (more3 n) (by omega) rfl (.tmp 24) (.tmp 34) rfl rfl rfl ?_
           intro v4 u4 G4
           have c1 := G4.bx.thir.c1
           rw [HN.out.l] at c1)
        | fail)
      clear c1 G G1 G2 G3
      go_wp2_with fail
      go_loopw [5, 38] (fun v a u => ∃ k : Nat, k ≤ L ∧ a = .int .i64 k ∧ Gat w p C v (n + 3 + k * (1 + S)) u) (fun _ a _ => L - (intOf a).toNat)
      case atStart => exact ⟨0, by omega, rfl, by simpa using G4⟩
      case round =>
        clear G4
        obtain ⟨k, hk, rfl, G⟩ := hrel
        by_cases hkl : k < L
        · have hkE : k * (1 + S) + (1 + S) ≤ L * (1 + S) := by rw [← Nat.succ_mul]; exact Nat.mul_le_mul_right _ hkl
          have HKK := Lib.hid (Nat.succ_mul k (1 + S))
          obtain ⟨m, hm⟩ : ∃ m, m = n + 3 + k * (1 + S) := ⟨_, rfl⟩
          rw [← hm] at G
          have hmb : m + 1 + S ≤ 33475 := by have := HEE.out; omega
          have V3 := Lib.hid (show plMap C s k = m by rw [HN.out.map s k hlt hkl, hm, HNN.out])
          have VS := Lib.hid (fun (j : Nat) (hj : j < S) => (show plSlot C s k j = ((m + 1 + j : Nat) : Int) by rw [HN.out.slot s k j hlt hkl hj, hm, HNN.out]))
          have HMM := Lib.hid hm
          clear hm hkE
          go_wp2_with fail
          refine (map_any C p s k _ G.pl hr).mono ?_
          rintro r u5 ⟨rfl, q⟩
          have G5 := G.next q
          clear q
          rw [V3.out]
          go_upto_region 10 with (first
            | (at_builtin
               refine wpList_gat G5 _ 1 (more1 m) (by omega) rfl (.tmp 41) (.tmp 46) rfl rfl rfl ?_
               intro v6 u6 G6)
            | fail)
          clear G G5
          obtain ⟨d0, d1, d2, d3, d4, d5, d6, d7, d8, d9, d10, d11, d12⟩ := G6.bx.thir
          go_wp2_with fail
          refine (slots_any C _ HB.out.c2).mono ?_
          rintro r u7 ⟨rfl, q⟩
          have G7 := G6.next (show Below u6.heap.size u6 u7 by rw [← q]; exact (Below.refl _ _).alloc (Nat.le_refl _) _)
          rw [HN.out.s]
          clear q G6 d0 d1 d2 d3 d4 d5 d6 d7 d8 d9 d10 d11 d12
          go_wp2_with fail
          go_loopw [5, 50] (fun v a u => ∃ i : Nat, i ≤ S ∧ a = .int .i64 i ∧ Gat w p C v (m + 1 + i) u) (fun _ a _ => S - (intOf a).toNat)
          case atStart => exact ⟨0, by omega, rfl, by simpa using G7⟩
          case round =>
            clear G7
            obtain ⟨i, hi, rfl, G⟩ := hrel
            by_cases hil : i < S
            · have V4 := Lib.hid (VS.out i hil)
              generalize hmi : m + 1 + i = mi at *
              have HMI := Lib.hid hmi
              have hmib : mi + 1 ≤ 33475 := by omega
              clear hmi
              go_wp2_with fail
              refine (slot_any C p s k i _ G.pl hr).mono ?_
              rintro r u8 ⟨rfl, q⟩
              have G8 := G.next q
              clear q
              rw [V4.out]
              go_wp2_with (first
                | (at_builtin
                   refine wpList_gat G8 _ 1 (more1 mi) (by omega) rfl (.tmp 53) (.tmp 59) rfl rfl rfl ?_
                   intro v9 u9 G9)
                | fail)
              go_roundw
              case rel => exact ⟨i + 1, by omega, by go_num, by have := HMI.out; rw [show m + 1 + (i + 1) = mi + 1 by omega]; exact G9⟩
              case measure => simp [intOf]; omega
            · obtain rfl : i = S := by omega
              go_wp2
              go_roundw
              case rel => exact ⟨k + 1, by omega, by go_num, by rw [HKK.out, show n + 3 + (k * (1 + i) + (1 + i)) = m + 1 + i by have := HMM.out; omega]; exact G⟩
              case measure => simp [intOf]; omega
        · obtain rfl : k = L := by omega
          go_wp2
          go_roundw
          case rel => exact ⟨s + 1, by omega, by go_num, by rw [HSS.out, show 3 + (s * E + E) = n + 3 + k * (1 + S) by have := HNN.out; have := HEE.out; omega]; exact G⟩
          case measure => simp [intOf]; omega
    · obtain rfl : s = W := by omega
      have HA := Lib.hid (Eq.refl (3 + s * E))
      obtain ⟨A, hA⟩ : ∃ A, A = 3 + s * E := ⟨_, rfl⟩
      rw [← hA]
      rw [← hA] at G
      have hAb : A ≤ 33475 := by omega
      have HAA := Lib.hid hA
      clear hA
      have c3 := G.bx.thir.c3
      rw [HN.out.n] at c3
      go_wp2_with fail
      go_loopw [5, 66] (fun v a u => ∃ n : Nat, n ≤ N ∧ a = .int .i64 n ∧ Gat w p C v (A + n * 4) u) (fun _ a _ => N - (intOf a).toNat)
      case atStart => exact ⟨0, by omega, rfl, by simpa using G⟩
      case round =>
        clear G c3
        obtain ⟨n, hn, rfl, G⟩ := hrel
        by_cases hnl : n < N
        · have V := Lib.hid (fun q => HN.out.node n hnl q)
          generalize hmi : A + n * 4 = mi at *
          have HMI := Lib.hid hmi
          have hmib : mi + 4 ≤ 100000 := by omega
          clear hmi
          go_wp2_with fail
          refine (state_any C p n _ G.pl hr).mono ?_
          rintro r x0 ⟨rfl, q⟩
          have G0 := G.next q
          clear q
          rw [show plNode C n 0 = mi by rw [V.out, ← HMI.out, HAA.out]; omega]
          go_wp2_with fail
          refine (home_any C p n _ G0.pl hr).mono ?_
          rintro r x1 ⟨rfl, q⟩
          have G1 := G0.next q
          clear q
          rw [show plNode C n 1 = mi + 1 by rw [V.out, ← HMI.out, HAA.out]]
          go_wp2_with fail
          refine (user_any C p n _ G1.pl hr).mono ?_
          rintro r x2 ⟨rfl, q⟩
          have G2 := G1.next q
          clear q
          rw [show plNode C n 2 = mi + 2 by rw [V.out, ← HMI.out, HAA.out]]
          go_wp2_with fail
          refine (nodeLink_any C p n _ G2.pl hr).mono ?_
          rintro r x3 ⟨rfl, q⟩
          have G3 := G2.next q
          clear q
          rw [show plNode C n 3 = mi + 3 by rw [V.out, ← HMI.out, HAA.out]]
          go_wp2_with (first
            | (at_builtin
               refine wpList_gat G3 _ 4 (more4 mi) (by omega) rfl (.tmp 69) (.tmp 82) rfl rfl rfl ?_
               intro v9 u9 G9)
            | fail)
          go_roundw
          case rel => exact ⟨n + 1, by omega, by go_num, by have := HMI.out; rw [show A + (n + 1) * 4 = mi + 4 by omega]; exact G9⟩
          case measure => simp [intOf]; omega
        · obtain rfl : n = N := by omega
          have c4 := G.bx.thir.c4
          rw [HN.out.t] at c4
          go_wp2_with fail
          go_loopw [5, 87] (fun v a u => ∃ t : Nat, t ≤ T ∧ a = .int .i64 t ∧ Gat w p C v (A + n * 4 + t * 3) u) (fun _ a _ => T - (intOf a).toNat)
          case atStart => exact ⟨0, by omega, rfl, by simpa using G⟩
          case round =>
            clear G c4
            obtain ⟨t, ht, rfl, G⟩ := hrel
            by_cases htl : t < T
            · have V := Lib.hid (fun q => HN.out.tick t htl q)
              generalize hmi : A + n * 4 + t * 3 = mi at *
              have HMI := Lib.hid hmi
              have hmib : mi + 3 ≤ 100000 := by omega
              clear hmi
              go_wp2_with fail
              refine (key_any C p t _ G.pl hr).mono ?_
              rintro r x0 ⟨rfl, q⟩
              have G0 := G.next q
              clear q
              rw [show plTick C t 0 = mi by rw [V.out, ← HMI.out, HAA.out]; omega]
              go_wp2_with fail
              refine (time_any C p t _ G0.pl hr).mono ?_
              rintro r x1 ⟨rfl, q⟩
              have G1 := G0.next q
              clear q
              rw [show plTick C t 1 = mi + 1 by rw [V.out, ← HMI.out, HAA.out]]
              go_wp2_with fail
              refine (ticketLink_any C p t _ G1.pl hr).mono ?_
              rintro r x2 ⟨rfl, q⟩
              have G2 := G1.next q
              clear q
              rw [show plTick C t 2 = mi + 2 by rw [V.out, ← HMI.out, HAA.out]]
              go_wp2_with (first
                | (at_builtin
                   refine wpList_gat G2 _ 3 (more3 mi) (by omega) rfl (.tmp 90) (.tmp 100) rfl rfl rfl ?_
                   intro v9 u9 G9)
                | fail)
              go_roundw
              case rel => exact ⟨t + 1, by omega, by go_num, by have := HMI.out; rw [show A + n * 4 + (t + 1) * 3 = mi + 3 by omega]; exact G9⟩
              case measure => simp [intOf]; omega
            · obtain rfl : t = T := by omega
              have c7 := G.bx.thir.c7
              rw [HN.out.x] at c7
              go_wp2_with fail
              go_loopw [5, 105] (fun v a u => ∃ x : Nat, x ≤ X ∧ a = .int .i64 x ∧ Gat w p C v (A + n * 4 + t * 3 + x * 1) u) (fun _ a _ => X - (intOf a).toNat)
              case atStart => exact ⟨0, by omega, rfl, by simpa using G⟩
              case round =>
                clear G c7
                obtain ⟨x, hx, rfl, G⟩ := hrel
                by_cases hxl : x < X
                · have V := Lib.hid (fun (_ : Int) => HN.out.conn x hxl)
                  generalize hmi : A + n * 4 + t * 3 + x * 1 = mi at *
                  have HMI := Lib.hid hmi
                  have hmib : mi + 1 ≤ 100000 := by omega
                  clear hmi
                  go_wp2_with fail
                  refine (conn_any C p x _ G.pl hr).mono ?_
                  rintro r x0 ⟨rfl, q⟩
                  have G0 := G.next q
                  clear q
                  rw [show plConn C x = mi by rw [V.out 0, ← HMI.out, HAA.out]; omega]
                  go_wp2_with (first
                    | (at_builtin
                       refine wpList_gat G0 _ 1 (more1 mi) (by omega) rfl (.tmp 108) (.tmp 112) rfl rfl rfl ?_
                       intro v9 u9 G9)
                    | fail)
                  go_roundw
                  case rel => exact ⟨x + 1, by omega, by go_num, by have := HMI.out; rw [show A + n * 4 + t * 3 + (x + 1) * 1 = mi + 1 by omega]; exact G9⟩
                  case measure => simp [intOf]; omega
                · obtain rfl : x = X := by omega
                  rw [Nat.mul_one] at G
                  obtain ⟨g, cap, rfl, hg, hgl, hat, hbe⟩ := G.listed (by have := HAA.out; omega)
                  have HL := Lib.hid (And.intro hg (And.intro hgl (And.intro hat hbe)))
                  clear hg hgl hat hbe G
                  go_wp2
                  go_ret
                  rw [← HAA.out]
                  exact ⟨g, cap, rfl, HL.out⟩

end Go.Proofs.YtgbepebihlmedaaDoor
