/- Events, plain facts: a text's words, and what they tell. -/
import Derived.Test.YtiaknnhfbfoeiaaDoorE15
namespace Go.Proofs.YtiaknnhfbfoeiaaDoor
set_option maxRecDepth 100000

theorem cut_at {c : UInt8} : ∀ (z z' r r' : List UInt8), c ∉ z → c ∉ z' → z ++ c :: r = z' ++ c :: r' → z = z' ∧ r = r'
  | [], [], r, r', _, _, h => ⟨rfl, by simpa using h⟩
  | [], b :: z', r, r', _, h2, h => by
    simp only [List.nil_append, List.cons_append, List.cons.injEq] at h
    exact absurd (by simp [h.1]) h2
  | a :: z, [], r, r', h1, _, h => by
    simp only [List.nil_append, List.cons_append, List.cons.injEq] at h
    exact absurd (by simp [h.1]) h1
  | a :: z, b :: z', r, r', h1, h2, h => by
    simp only [List.cons_append, List.cons.injEq] at h
    obtain ⟨e1, e2⟩ := cut_at z z' r r' (fun m => h1 (by simp [m])) (fun m => h2 (by simp [m])) h.2
    exact ⟨by rw [h.1, e1], e2⟩
theorem no_cut {c : UInt8} (z z' r : List UInt8) (h2 : c ∉ z') : z ++ c :: r ≠ z' := fun h => h2 (by rw [← h]; simp)
/-- words without blanks. -/
def Bare (l : List (List UInt8)) : Prop := ∀ z, z ∈ l → (32 : UInt8) ∉ z
theorem tail_cons (a : List UInt8) (r : List (List UInt8)) : Lib.joinTail [32] (a :: r) = 32 :: (a ++ Lib.joinTail [32] r) := by
  simp [Lib.joinTail]
theorem words_inj : ∀ (r r' : List (List UInt8)) (z z' : List UInt8), Bare (z :: r) → Bare (z' :: r') → z ++ Lib.joinTail [32] r = z' ++ Lib.joinTail [32] r' → z = z' ∧ r = r'
  | [], [], z, z', _, _, h => ⟨by simpa [Lib.joinTail] using h, rfl⟩
  | [], b :: r', z, z', h1, _, h => by
    rw [tail_cons] at h
    exact absurd (by simpa [Lib.joinTail] using h.symm) (no_cut z' z _ (h1 z (by simp)))
  | a :: r, [], z, z', _, h2, h => by
    rw [tail_cons] at h
    exact absurd (by simpa [Lib.joinTail] using h) (no_cut z z' _ (h2 z' (by simp)))
  | a :: r, b :: r', z, z', h1, h2, h => by
    rw [tail_cons, tail_cons] at h
    obtain ⟨e1, e2⟩ := cut_at _ _ _ _ (h1 z (by simp)) (h2 z' (by simp)) h
    obtain ⟨e3, e4⟩ := words_inj r r' a b (fun y m => h1 y (by simp [List.mem_cons.1 m])) (fun y m => h2 y (by simp [List.mem_cons.1 m])) e2
    exact ⟨e1, by rw [e3, e4]⟩
theorem pc_app {b : Bool} {s s' : List UInt8} {r r' : List (List UInt8)} (h : pc b s ++ r = pc b s' ++ r') : (b = true → s = s') ∧ r = r' := by
  cases b with
  | false => exact ⟨fun h => absurd h (by decide), h⟩
  | true =>
    simp only [pc, if_pos, List.cons_append, List.nil_append, List.cons.injEq] at h
    exact ⟨fun _ => h.1, h.2⟩

/- digits -/
def dV (l : List UInt8) : Nat := l.foldl (fun a d => a * 10 + (d.toNat - 48)) 0
theorem dV_snoc (l : List UInt8) (d : UInt8) : dV (l ++ [d]) = dV l * 10 + (d.toNat - 48) := by
  unfold dV
  rw [List.foldl_append]
  rfl
theorem dig_nat {d : Nat} (h : d < 10) : (UInt8.ofNat (48 + d)).toNat = 48 + d := by
  rw [UInt8.toNat_ofNat']
  omega
theorem dec_val (u : Nat) : dV (Lib.decDigits u) = u := by
  induction u using Nat.strongRecOn with
  | _ u ih =>
    rw [Lib.decDigits]
    split
    · rename_i h
      rw [show [UInt8.ofNat (48 + u)] = [] ++ [UInt8.ofNat (48 + u)] from rfl, dV_snoc, dig_nat h]
      simp [dV]
    · rename_i h
      rw [dV_snoc, ih (u / 10) (by omega), dig_nat (by omega)]
      omega
theorem dec_dig (u : Nat) : ∀ d, d ∈ Lib.decDigits u → 48 ≤ d.toNat ∧ d.toNat < 58 := by
  induction u using Nat.strongRecOn with
  | _ u ih =>
    rw [Lib.decDigits]
    split
    · rename_i h
      intro d hd
      rw [List.mem_singleton.1 hd, dig_nat h]
      omega
    · rename_i h
      intro d hd
      rcases List.mem_append.1 hd with hd | hd
      · exact ih (u / 10) (by omega) d hd
      · rw [List.mem_singleton.1 hd, dig_nat (by omega)]
        omega
theorem dec_pos (u : Nat) : Lib.decDigits u ≠ [] := by
  rw [Lib.decDigits]
  split
  · simp
  · simp
theorem itoa_dig (n : Int) : ∀ d, d ∈ Lib.itoa n → d = 45 ∨ 48 ≤ d.toNat ∧ d.toNat < 58 := by
  intro d hd
  unfold Lib.itoa at hd
  split at hd
  · rcases List.mem_cons.1 hd with e | hd
    · exact Or.inl e
    · exact Or.inr (dec_dig _ d hd)
  · exact Or.inr (dec_dig _ d hd)
theorem itoa_pos (n : Int) : Lib.itoa n ≠ [] := by
  unfold Lib.itoa
  split
  · simp
  · exact dec_pos _
theorem dec_not45 (u : Nat) (l : List UInt8) : Lib.decDigits u ≠ 45 :: l := fun h => by
  have := dec_dig u 45 (by rw [h]; simp)
  revert this
  decide
theorem itoa_inj {n m : Int} (h : Lib.itoa n = Lib.itoa m) : n = m := by
  unfold Lib.itoa at h
  split at h
  · split at h
    · simp only [List.cons.injEq, true_and] at h
      have := congrArg dV h
      rw [dec_val, dec_val] at this
      omega
    · exact absurd h.symm (dec_not45 _ _)
  · split at h
    · exact absurd h (dec_not45 _ _)
    · have := congrArg dV h
      rw [dec_val, dec_val] at this
      omega
theorem itoa_no (n : Int) (c : UInt8) (h1 : c ≠ 45) (h2 : c.toNat < 48) : c ∉ Lib.itoa n := fun hm => by
  rcases itoa_dig n c hm with h | h
  · exact h1 h
  · omega
theorem hdT_inj {a b a' b' : Int} (h : hdT a b = hdT a' b') : a = a' ∧ b = b' := by
  unfold hdT at h
  simp only [List.append_assoc, List.singleton_append] at h
  obtain ⟨e1, e2⟩ := cut_at _ _ _ _ (itoa_no a 46 (by decide) (by decide)) (itoa_no a' 46 (by decide) (by decide)) h
  exact ⟨itoa_inj e1, itoa_inj e2⟩
theorem ysT_inj {y y' : Bool} (h : ysT y = ysT y') : y = y' := by
  cases y <;> cases y' <;> first | rfl | (revert h; decide)
/-- a word: something, without blank and line feed. -/
def Wd (z : List UInt8) : Prop := z ≠ [] ∧ (32 : UInt8) ∉ z ∧ (10 : UInt8) ∉ z
theorem itoa_wd (n : Int) : Wd (Lib.itoa n) := ⟨itoa_pos n, itoa_no n 32 (by decide) (by decide), itoa_no n 10 (by decide) (by decide)⟩
theorem hdT_wd (a b : Int) : Wd (hdT a b) := by
  unfold hdT
  obtain ⟨p1, p2, p3⟩ := itoa_wd a
  obtain ⟨q1, q2, q3⟩ := itoa_wd b
  refine ⟨by simp, ?_, ?_⟩ <;> simp only [List.mem_append, List.mem_singleton, not_or] <;> refine ⟨⟨?_, by decide⟩, ?_⟩ <;> assumption
theorem ysT_wd (y : Bool) : Wd (ysT y) := by cases y <;> exact ⟨by decide, by decide, by decide⟩
theorem kN_wd {i : Nat} (h0 : 0 < i) (h : i < 6) : Wd (kN.getD i []) := by
  have : ∀ i, i < 6 → 0 < i → kN.getD i [] ≠ [] ∧ (32 : UInt8) ∉ kN.getD i [] ∧ (10 : UInt8) ∉ kN.getD i [] := by decide
  exact this i h h0
theorem oN_wd {i : Nat} (h0 : 0 < i) (h : i < 8) : Wd (oN.getD i []) := by
  have : ∀ i, i < 8 → 0 < i → oN.getD i [] ≠ [] ∧ (32 : UInt8) ∉ oN.getD i [] ∧ (10 : UInt8) ∉ oN.getD i [] := by decide
  exact this i h h0
theorem pc_wd {b : Bool} {s : List UInt8} (h : b = true → Wd s) : ∀ z, z ∈ pc b s → Wd z := by
  intro z hz
  cases b with
  | false => cases hz
  | true => rw [List.mem_singleton.1 hz]; exact h rfl
theorem kN_inj {i j : Nat} (hi : i < 6) (hj : j < 6) (h : kN.getD i [] = kN.getD j []) : i = j := by
  have : ∀ i, i < 6 → ∀ j, j < 6 → kN.getD i [] = kN.getD j [] → i = j := by decide
  exact this i hi j hj h
theorem oN_inj {i j : Nat} (hi : i < 8) (hj : j < 8) (h : oN.getD i [] = oN.getD j []) : i = j := by
  have : ∀ i, i < 8 → ∀ j, j < 8 → oN.getD i [] = oN.getD j [] → i = j := by decide
  exact this i hi j hj h

/-- how many words fields make. -/
def wn (l : Int) : Nat := 1 + (fb l 1).toNat + (fb l 2).toNat + (fb l 4).toNat + (fb l 8).toNat + (fb l 16).toNat + (fb l 32).toNat + (fb l 64).toNat + (fb l 128).toNat + (fb l 256).toNat
theorem pc_n (b : Bool) (s : List UInt8) : (pc b s).length = b.toNat := by cases b <;> rfl
theorem words_n (x : Ev) (l : Int) : (words x l).length = wn l := by
  unfold words wn
  simp only [List.length_append, pc_n, List.length_cons, List.length_nil]
theorem tab_n : ∀ k, k < 6 → ∀ o, o < 8 → ∀ z z' : Bool, wn (flT k o z) = wn (flT k o z') → flT k o z = flT k o z' := by decide +kernel
/-- fields beside the kind: the worker's (unless it's a tick); and the operation, which the fields tell. -/
theorem tab_o : ∀ k, k < 6 → ∀ o, o < 8 → ∀ z : Bool, flT k o z ≠ 0 → 0 < k ∧ fb (flT k o z) 1 = (k != 1) ∧ fb (flT k o z) 2 = (o != 0) ∧ ((o == 0) = (k == 1 || k == 4)) ∧ 2 ≤ wn (flT k o z) := by decide +kernel

theorem right_fl {x : Ev} (h : x.rightC = true) : x.fl ≠ 0 ∧ eqb x (x.only x.fl) = true := by
  unfold Ev.rightC at h
  simp only [Bool.and_eq_true, Bool.not_eq_true', beq_eq_false_iff_ne] at h
  exact ⟨h.1.1, h.1.2⟩
theorem words_cons (x : Ev) (l : Int) : words x l = kN.getD x.k.toNat [] :: (pc (fb l 1) (Lib.itoa x.w) ++ (pc (fb l 2) (oN.getD x.o.toNat []) ++ (pc (fb l 4) (hdT x.hn x.hg) ++ (pc (fb l 8) (hdT x.nn x.ng) ++ (pc (fb l 16) (Lib.itoa x.t) ++ (pc (fb l 32) (Lib.itoa x.a) ++ (pc (fb l 64) (Lib.itoa x.u) ++ (pc (fb l 128) (ysT x.y) ++ pc (fb l 256) (Lib.itoa x.e))))))))) := by
  unfold words
  simp only [List.append_assoc, List.cons_append, List.nil_append]
theorem words_wd {x : Ev} (h : x.rightC = true) : ∀ z, z ∈ words x x.fl → Wd z := by
  obtain ⟨hne, _⟩ := right_fl h
  have hin := Ev.fl_in hne
  have hf := fl_flT (x := x) (kk := x.k.toNat) (oo := x.o.toNat) (by omega) (by omega) (by omega) (by omega)
  obtain ⟨k0, _, o1, _⟩ := tab_o x.k.toNat (by omega) x.o.toNat (by omega) (x.e == 0) (hf ▸ hne)
  rw [← hf] at o1
  intro z hz
  rw [words_cons] at hz
  simp only [List.mem_cons, List.mem_append] at hz
  rcases hz with h | h | h | h | h | h | h | h | h | h
  · rw [h]; exact kN_wd k0 (by omega)
  · exact pc_wd (fun _ => itoa_wd _) z h
  · exact pc_wd (fun e => by
      rw [o1] at e
      exact oN_wd (by simp at e; omega) (by omega)) z h
  · exact pc_wd (fun _ => hdT_wd _ _) z h
  · exact pc_wd (fun _ => hdT_wd _ _) z h
  · exact pc_wd (fun _ => itoa_wd _) z h
  · exact pc_wd (fun _ => itoa_wd _) z h
  · exact pc_wd (fun _ => itoa_wd _) z h
  · exact pc_wd (fun _ => ysT_wd _) z h
  · exact pc_wd (fun _ => itoa_wd _) z h
theorem words_two {x : Ev} (h : x.rightC = true) : 2 ≤ (words x x.fl).length := by
  obtain ⟨hne, _⟩ := right_fl h
  have hin := Ev.fl_in hne
  have hf := fl_flT (x := x) (kk := x.k.toNat) (oo := x.o.toNat) (by omega) (by omega) (by omega) (by omega)
  obtain ⟨_, _, _, _, h2⟩ := tab_o x.k.toNat (by omega) x.o.toNat (by omega) (x.e == 0) (hf ▸ hne)
  rw [words_n, hf]
  exact h2

theorem line_inj {x y : Ev} (hx : x.rightC = true) (hy : y.rightC = true) (h : lineC x = lineC y) : x = y := by
  obtain ⟨nx, ex⟩ := right_fl hx
  obtain ⟨ny, ey⟩ := right_fl hy
  have ix := Ev.fl_in nx
  have iy := Ev.fl_in ny
  have fx := fl_flT (x := x) (kk := x.k.toNat) (oo := x.o.toNat) (by omega) (by omega) (by omega) (by omega)
  have fy := fl_flT (x := y) (kk := y.k.toNat) (oo := y.o.toNat) (by omega) (by omega) (by omega) (by omega)
  obtain ⟨kx, wx, ox, px, _⟩ := tab_o x.k.toNat (by omega) x.o.toNat (by omega) (x.e == 0) (fx ▸ nx)
  obtain ⟨ky, wy, oy, py, _⟩ := tab_o y.k.toNat (by omega) y.o.toNat (by omega) (y.e == 0) (fy ▸ ny)
  rw [← fx] at wx ox
  rw [← fy] at wy oy
  have bx : Bare (words x x.fl) := fun z hz => (words_wd hx z hz).2.1
  have by' : Bare (words y y.fl) := fun z hz => (words_wd hy z hz).2.1
  have ww : words x x.fl = words y y.fl := by
    unfold lineC at h
    rw [if_pos hx, if_pos hy] at h
    rw [words_cons, words_cons, Lib.join_cons, Lib.join_cons] at h
    rw [words_cons] at bx by' ⊢
    rw [words_cons y]
    obtain ⟨e1, e2⟩ := words_inj _ _ _ _ bx by' h
    rw [e1, e2]
  have wl := words_n x x.fl
  rw [ww, words_n] at wl
  rw [words_cons, words_cons, List.cons.injEq] at ww
  have ek := kN_inj (by omega) (by omega) ww.1
  have ww := ww.2
  rw [wx, wy, ek] at ww
  obtain ⟨ew, ww⟩ := pc_app ww
  rw [ek] at px wx
  have eo0 : (x.o.toNat == 0) = (y.o.toNat == 0) := by rw [px, py]
  have eo1 : (x.o.toNat != 0) = (y.o.toNat != 0) := by unfold bne; rw [eo0]
  rw [ox, oy, eo1] at ww
  obtain ⟨eo, ww⟩ := pc_app ww
  have eoo : x.o.toNat = y.o.toNat := by
    by_cases h0 : y.o.toNat = 0
    · rw [h0] at eo0 ⊢
      simpa using eo0
    · exact oN_inj (by omega) (by omega) (eo (by simpa using h0))
  have ef : x.fl = y.fl := by
    rw [fx, fy, ek, eoo] at wl ⊢
    exact tab_n _ (by omega) _ (by omega) _ _ wl.symm
  rw [ef] at ww ex wx
  generalize hl : y.fl = l at *
  obtain ⟨e4, ww⟩ := pc_app ww
  obtain ⟨e8, ww⟩ := pc_app ww
  obtain ⟨e16, ww⟩ := pc_app ww
  obtain ⟨e32, ww⟩ := pc_app ww
  obtain ⟨e64, ww⟩ := pc_app ww
  obtain ⟨e128, ww⟩ := pc_app ww
  rw [← List.append_nil (pc _ _), ← List.append_nil (pc _ (Lib.itoa y.e))] at ww
  obtain ⟨e256, _⟩ := pc_app ww
  rw [eqb_only] at ex ey
  rw [← wy] at ew
  simp only [Bool.and_eq_true, Bool.or_eq_true, beq_iff_eq, Bool.not_eq_true'] at ex ey
  obtain ⟨x1, x2, ⟨x3, x4⟩, ⟨x5, x6⟩, x7, x8, x9, xa, xb⟩ := ex
  obtain ⟨y1, y2, ⟨y3, y4⟩, ⟨y5, y6⟩, y7, y8, y9, ya, yb⟩ := ey
  clear hl wl fx fy nx ny hx hy h bx by' ww ef px py eo0 eo1 ox oy wx wy
  obtain ⟨k, w, o, hn, hg, nn, ng, t, a, u, yy, e⟩ := x
  obtain ⟨k', w', o', hn', hg', nn', ng', t', a', u', yy', e'⟩ := y
  dsimp only at *
  rw [Ev.mk.injEq]
  refine ⟨by omega, ?_, by omega, ?_, ?_, ?_, ?_, ?_, ?_, ?_, ?_, ?_⟩
  · by_cases g : fb l 1 = true
    · exact itoa_inj (ew g)
    · rw [x1.resolve_left g, y1.resolve_left g]
  · by_cases g : fb l 4 = true
    · exact (hdT_inj (e4 g)).1
    · rw [x3.resolve_left g, y3.resolve_left g]
  · by_cases g : fb l 4 = true
    · exact (hdT_inj (e4 g)).2
    · rw [x4.resolve_left g, y4.resolve_left g]
  · by_cases g : fb l 8 = true
    · exact (hdT_inj (e8 g)).1
    · rw [x5.resolve_left g, y5.resolve_left g]
  · by_cases g : fb l 8 = true
    · exact (hdT_inj (e8 g)).2
    · rw [x6.resolve_left g, y6.resolve_left g]
  · by_cases g : fb l 16 = true
    · exact itoa_inj (e16 g)
    · rw [x7.resolve_left g, y7.resolve_left g]
  · by_cases g : fb l 32 = true
    · exact itoa_inj (e32 g)
    · rw [x8.resolve_left g, y8.resolve_left g]
  · by_cases g : fb l 64 = true
    · exact itoa_inj (e64 g)
    · rw [x9.resolve_left g, y9.resolve_left g]
  · by_cases g : fb l 128 = true
    · exact ysT_inj (e128 g)
    · rw [xa.resolve_left g, ya.resolve_left g]
  · by_cases g : fb l 256 = true
    · exact itoa_inj (e256 g)
    · rw [xb.resolve_left g, yb.resolve_left g]

end Go.Proofs.YtiaknnhfbfoeiaaDoor
