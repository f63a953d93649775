/-
  The parts that the statement needs, 2 of 3.
-/
import Derived.Test.YtlmomkdmbacbpaaDoorV71
namespace Go.Ev
open Go.Proofs
set_option linter.unusedVariables false
set_option linter.unusedSimpArgs false
set_option maxRecDepth 100000
noncomputable def p42 (aa na ma : Nat) (ta : Nat → Int) (ab nb mb : Nat) (tb : Nat → Int) : Option (St42 ⊕ Rt42) := bif ((↑na : Int) != (↑nb : Int))
 then (some (.inr (false)))
 else (some (.inl (.h0 ((0 : Int)))))
noncomputable def Te42 (test : Bool → Prop → Prop → Prop) (Kst : KS) (Kret : KR) (aa na ma : Nat) (ta : Nat → Int) (ab nb mb : Nat) (tb : Nat → Int) : Prop :=
  test ((↑na : Int) != (↑nb : Int))
 (Kret (PV.tf false) ([[(1, false, Blk.cols mb [Col.int IntKind.i64 tb]),
 (0, false, Blk.cols ma [Col.int IntKind.i64 ta])]]) (2))
 (Kst (hd Tryd.f42 0) ([PV.loose (PA.mk (0) (1) aa (0)) na,
 PV.loose (PA.mk (1) (1) ab (0)) nb, PV.int IntKind.i64 (↑na : Int),
 PV.int IntKind.i64 (0 : Int)]) ([[(1, false, Blk.cols mb [Col.int IntKind.i64 tb]),
 (0, false, Blk.cols ma [Col.int IntKind.i64 ta])]]) (2))
theorem te42 (test : Bool → Prop → Prop → Prop) (Kst : KS) (Kret : KR) (aa na ma : Nat) (ta : Nat → Int) (ab nb mb : Nat) (tb : Nat → Int) : run test Tryd.env true noX true 400 ⟨42, [.cd (mkFn Tryd.f42).body], argT 0 [.loose ⟨0, 1, aa, 0⟩ na, .loose ⟨1, 1, ab, 0⟩ nb], [[], [(0, (false, .cols ma [.int .i64 ta])), (1, (false, .cols mb [.int .i64 tb]))]], 2⟩ (proj 2 [0, 1, 12, 13] Kst Kret) =
  Te42 test Kst Kret aa na ma ta ab nb mb tb := by kernel_rfl
noncomputable def T42_0 (test : Bool → Prop → Prop → Prop) (Kst : KS) (Kret : KR) (aa na ma : Nat) (ta : Nat → Int) (ab nb mb : Nat) (tb : Nat → Int) (x0 : Int) : Prop :=
  test (decide (x0 < (↑na : Int)))
 (test (decide ((0 : Int) ≤ x0 ∧ x0 < (↑na : Int)))
 (test (decide (Int.toNat x0 + aa < ma))
 (test (decide ((0 : Int) ≤ x0 ∧ x0 < (↑nb : Int)))
 (test (decide (Int.toNat x0 + ab < mb))
 (test (ta (Int.toNat x0 + aa) != tb (Int.toNat x0 + ab))
 (Kret (PV.tf false) ([[(1, false, Blk.cols mb [Col.int IntKind.i64 tb]),
 (0, false, Blk.cols ma [Col.int IntKind.i64 ta])]]) (2))
 (test (lim IntKind.i64 (x0 + (1 : Int)))
 (Kst (hd Tryd.f42 0) ([PV.loose (PA.mk (0) (1) aa (0)) na,
 PV.loose (PA.mk (1) (1) ab (0)) nb, PV.int IntKind.i64 (↑na : Int),
 PV.int IntKind.i64 (x0 + (1 : Int))]) ([[(1, false, Blk.cols mb [Col.int IntKind.i64 tb]),
 (0, false, Blk.cols ma [Col.int IntKind.i64 ta])]]) (2))
 (False)))
 (False))
 (False))
 (False))
 (False))
 (Kret (PV.tf true) ([[(1, false, Blk.cols mb [Col.int IntKind.i64 tb]),
 (0, false, Blk.cols ma [Col.int IntKind.i64 ta])]]) (2))
theorem t42_0 (test : Bool → Prop → Prop → Prop) (Kst : KS) (Kret : KR) (aa na ma : Nat) (ta : Nat → Int) (ab nb mb : Nat) (tb : Nat → Int) (x0 : Int) : run test Tryd.env true noX true 400 ⟨42, hd Tryd.f42 0, zipT [0, 1, 12, 13] [PV.loose (PA.mk (0) (1) aa (0)) na,
 PV.loose (PA.mk (1) (1) ab (0)) nb, PV.int IntKind.i64 (↑na : Int),
 PV.int IntKind.i64 x0], [[], [(0, (false, .cols ma [.int .i64 ta])), (1, (false, .cols mb [.int .i64 tb]))]], 2⟩ (proj 2 [0, 1, 12, 13] Kst Kret) =
  T42_0 test Kst Kret aa na ma ta ab nb mb tb x0 := by kernel_rfl
attribute [local irreducible] Int.subNatNat in
theorem be42 (aa na ma : Nat) (ta : Nat → Int) (ab nb mb : Nat) (tb : Nat → Int) (Kst : KS) (Kret : KR) (x : St42 ⊕ Rt42) (hS : HS 2 400 ((I42 aa na ma ta ab nb mb tb)) Kst x) (hR : HR 2 400 ((V42 aa na ma ta ab nb mb tb)) (fun r => [newL (2 + 1) ((N42 aa na ma ta ab nb mb tb) r) ++ [(0, (false, .cols ma [.int .i64 ta])), (1, (false, .cols mb [.int .i64 tb]))]]) Kret x) (h : p42 aa na ma ta ab nb mb tb = some x) : Te42 cond Kst Kret aa na ma ta ab nb mb tb := by
  unfold Te42
  unfold p42 at h
  refine bif_split h
   (fun c0 h => ret_at hR _ h (fun n => n) rfl rfl rfl (rn_bool_tf rfl) rfl (entl_bor (use_lo rfl) rfl rfl (entl_bor (use_lo rfl) rfl rfl entl_nil)))
   (fun c0 h => stop_at hS _ h (fun n => n) rfl rfl rfl ⟨(rn_loose (use_lo rfl) rfl rfl rfl), ⟨(rn_loose (use_lo rfl) rfl rfl rfl), ⟨(rn_int rfl), ⟨(rn_int rfl), trivial⟩⟩⟩⟩ rfl (entl_bor (use_lo rfl) rfl rfl (entl_bor (use_lo rfl) rfl rfl entl_nil)))
attribute [local irreducible] Int.subNatNat in
theorem b42_0 (aa na ma : Nat) (ta : Nat → Int) (ab nb mb : Nat) (tb : Nat → Int) (Kst : KS) (Kret : KR) (x : St42 ⊕ Rt42) (hS : HS 2 400 ((I42 aa na ma ta ab nb mb tb)) Kst x) (hR : HR 2 400 ((V42 aa na ma ta ab nb mb tb)) (fun r => [newL (2 + 1) ((N42 aa na ma ta ab nb mb tb) r) ++ [(0, (false, .cols ma [.int .i64 ta])), (1, (false, .cols mb [.int .i64 tb]))]]) Kret x) (x0 : Int) (h : (bif (decide (x0 < (↑na : Int)))
 then (bif (decide ((0 : Int) ≤ x0 ∧ x0 < (↑na : Int)))
 then (bif (decide (Int.toNat x0 + aa < ma))
 then (bif (decide ((0 : Int) ≤ x0 ∧ x0 < (↑nb : Int)))
 then (bif (decide (Int.toNat x0 + ab < mb))
 then (bif (ta (Int.toNat x0 + aa) != tb (Int.toNat x0 + ab))
 then (some (.inr (false)))
 else (bif (lim IntKind.i64 (x0 + (1 : Int)))
 then (some (.inl (.h0 (x0 + (1 : Int)))))
 else (none)))
 else (none))
 else (none))
 else (none))
 else (none))
 else (some (.inr (true))) : Option (St42 ⊕ Rt42)) = some x) : T42_0 cond Kst Kret aa na ma ta ab nb mb tb x0 := by
  unfold T42_0
  exact bif_split h
   (fun c0 h => bif_split h
   (fun c1 h => bif_split h
   (fun c2 h => bif_split h
   (fun c3 h => bif_split h
   (fun c4 h => bif_split h
   (fun c5 h => ret_at hR _ h (fun n => n) rfl rfl rfl (rn_bool_tf rfl) rfl (entl_bor (use_lo rfl) rfl rfl (entl_bor (use_lo rfl) rfl rfl entl_nil)))
   (fun c5 h => bif_split h
   (fun c6 h => stop_at hS _ h (fun n => n) rfl rfl rfl ⟨(rn_loose (use_lo rfl) rfl rfl rfl), ⟨(rn_loose (use_lo rfl) rfl rfl rfl), ⟨(rn_int rfl), ⟨(rn_int rfl), trivial⟩⟩⟩⟩ rfl (entl_bor (use_lo rfl) rfl rfl (entl_bor (use_lo rfl) rfl rfl entl_nil)))
   (fun c6 h => no_some h)))
   (fun c4 h => no_some h))
   (fun c3 h => no_some h))
   (fun c2 h => no_some h))
   (fun c1 h => no_some h))
   (fun c0 h => ret_at hR _ h (fun n => n) rfl rfl rfl (rn_bool_tf rfl) rfl (entl_bor (use_lo rfl) rfl rfl (entl_bor (use_lo rfl) rfl rfl entl_nil)))
theorem a42 (aa na ma : Nat) (ta : Nat → Int) (ab nb mb : Nat) (tb : Nat → Int) {r : Rt42} (h : Goes ((q42 aa na ma ta ab nb mb tb)) ((p42 aa na ma ta ab nb mb tb)) r) : CallR Tryd.prog 42 [.loose ⟨0, 1, aa, 0⟩ na, .loose ⟨1, 1, ab, 0⟩ nb] [[(0, (false, .cols ma [.int .i64 ta])), (1, (false, .cols mb [.int .i64 tb]))]] 2 ((V42 aa na ma ta ab nb mb tb) r) ((fun r => [newL (2 + 1) ((N42 aa na ma ta ab nb mb tb) r) ++ [(0, (false, .cols ma [.int .i64 ta])), (1, (false, .cols mb [.int .i64 tb]))]]) r) 400 ∧ ∃ F, Tryd.prog.funcs[42]? = some F ∧ F.body.isSome = true ∧ (F.name == "runtime.NumGoroutine") = false := by
  refine dec_calls (f := 42) (lo := 2) (hi := 400) (H := [[(0, (false, .cols ma [.int .i64 ta])), (1, (false, .cols mb [.int .i64 tb]))]]) (args := [.loose ⟨0, 1, aa, 0⟩ na, .loose ⟨1, 1, ab, 0⟩ nb]) Tryd.envOk Tryd.mixed noX_ok ((I42 aa na ma ta ab nb mb tb)) ((V42 aa na ma ta ab nb mb tb)) (fun r => [newL (2 + 1) ((N42 aa na ma ta ab nb mb tb) r) ++ [(0, (false, .cols ma [.int .i64 ta])), (1, (false, .cols mb [.int .i64 tb]))]]) (fn := mkFn Tryd.f42) (ts := [0, 1, 12, 13]) (n := 400) rfl (by decide) (by simp) (names_of rfl) ?_ ?_ ?_ h
  · intro s; cases s <;> exact ⟨hd_ok _ _, by simp [I42], names_of rfl, Nat.le_of_ble_eq_true rfl⟩
  · intro Kst Kret x hS hR h
    exact Holds.eq (te42 cond Kst Kret aa na ma ta ab nb mb tb) (be42 aa na ma ta ab nb mb tb Kst Kret x hS hR h)
  · intro Kst Kret x hS hR s h
    cases s with
    | h0 x0 => exact Holds.eq (t42_0 cond Kst Kret aa na ma ta ab nb mb tb x0) (b42_0 aa na ma ta ab nb mb tb Kst Kret x hS hR x0 h)
noncomputable def k42  : Con := ⟨42, [.one (.list [.int .i64]), .one (.list [.int .i64])], fun (x : (Nat × Nat × Nat × (Nat → Int) × Unit) × (Nat × Nat × Nat × (Nat → Int) × Unit) × Unit) => (fun (aa na ma : Nat) (ta : Nat → Int) (ab nb mb : Nat) (tb : Nat → Int) => decide (aa + na ≤ ma ∧ na ≤ 1000000 ∧ ab + nb ≤ mb ∧ nb ≤ 1000000)) x.1.1 x.1.2.1 x.1.2.2.1 x.1.2.2.2.1 x.2.1.1 x.2.1.2.1 x.2.1.2.2.1 x.2.1.2.2.2.1, fun (x : (Nat × Nat × Nat × (Nat → Int) × Unit) × (Nat × Nat × Nat × (Nat → Int) × Unit) × Unit) => (fun (aa na ma : Nat) (ta : Nat → Int) (ab nb mb : Nat) (tb : Nat → Int) => (V42 aa na ma ta ab nb mb tb) (decide ((S.mkl na fun j => ta (j + aa)) = (S.mkl nb fun j => tb (j + ab))))) x.1.1 x.1.2.1 x.1.2.2.1 x.1.2.2.2.1 x.2.1.1 x.2.1.2.1 x.2.1.2.2.1 x.2.1.2.2.2.1, fun (x : (Nat × Nat × Nat × (Nat → Int) × Unit) × (Nat × Nat × Nat × (Nat → Int) × Unit) × Unit) => (fun (aa na ma : Nat) (ta : Nat → Int) (ab nb mb : Nat) (tb : Nat → Int) => (N42 aa na ma ta ab nb mb tb) (decide ((S.mkl na fun j => ta (j + aa)) = (S.mkl nb fun j => tb (j + ab))))) x.1.1 x.1.2.1 x.1.2.2.1 x.1.2.2.2.1 x.2.1.1 x.2.1.2.1 x.2.1.2.2.1 x.2.1.2.2.2.1, fun _ _ => .dead⟩
theorem e42 (aa na ma : Nat) (ta : Nat → Int) (ab nb mb : Nat) (tb : Nat → Int) (h : na = nb) : decide ((S.mkl na fun j => ta (j + aa)) = (S.mkl nb fun j => tb (j + ab))) = true ↔ ∀ j, j < na → ta (j + aa) = tb (j + ab) := by
  rw [decide_eq_true_eq, mkl_inj]
  simp only [h, true_and, Prod.mk.injEq]
theorem s42' (aa na ma : Nat) (ta : Nat → Int) (ab nb mb : Nat) (tb : Nat → Int) (hp : aa + na ≤ ma ∧ na ≤ 1000000 ∧ ab + nb ≤ mb ∧ nb ≤ 1000000) (he : na = nb) : ∀ k i : Nat, i + k = na → (∀ j, j < i → ta (j + aa) = tb (j + ab)) → Comes (q42 aa na ma ta ab nb mb tb) (.h0 (i : Int)) (decide ((S.mkl na fun j => ta (j + aa)) = (S.mkl nb fun j => tb (j + ab)))) := by
  obtain ⟨hp1, hp2, hp3, hp4⟩ := hp
  have hq := e42 aa na ma ta ab nb mb tb he
  generalize decide ((S.mkl na fun j => ta (j + aa)) = (S.mkl nb fun j => tb (j + ab))) = R at hq ⊢
  intro k
  induction k with
  | zero =>
    intro i hi hj
    obtain rfl : na = i := by omega
    apply Comes.of
    show Goes _ _ _
    (first | rw [q42] | unfold q42)
    repeat' first
      | with_reducible refine goes_if (fun h => ?_) (fun h => ?_) <;> (try simp only [SH] at h)
      | exact goes_none.mpr (by omega)
    all_goals first | (exfalso; omega) | (exact goes_inr.mpr (hq.mpr hj).symm)
  | succ k ih =>
    intro i hi hj
    have hw : ∀ {P : Prop}, (R = true → P) → ¬ P → false = R := fun h1 h2 => by cases R; rfl; exact absurd (h1 rfl) h2
    apply Comes.of
    show Goes _ _ _
    (first | rw [q42] | unfold q42)
    repeat' first
      | with_reducible refine goes_if (fun h => ?_) (fun h => ?_) <;> (try simp only [SH] at h)
      | exact goes_none.mpr (by omega)
    all_goals first
      | (exfalso; omega)
      | (refine ih (i + 1) (by omega) fun j hlt => ?_
         rcases Nat.lt_or_eq_of_le (Nat.le_of_lt_succ hlt) with h1 | h1
         · exact hj j h1
         · subst h1; simp_all)
      | (refine goes_inr.mpr (hw (fun e => hq.mp e i (by omega)) fun e => ?_); simp_all)
theorem s42 (aa na ma : Nat) (ta : Nat → Int) (ab nb mb : Nat) (tb : Nat → Int) (hp : aa + na ≤ ma ∧ na ≤ 1000000 ∧ ab + nb ≤ mb ∧ nb ≤ 1000000) : Goes ((q42 aa na ma ta ab nb mb tb)) ((p42 aa na ma ta ab nb mb tb)) (decide ((S.mkl na fun j => ta (j + aa)) = (S.mkl nb fun j => tb (j + ab)))) := by
  by_cases he : na = nb
  · have hm := s42' aa na ma ta ab nb mb tb hp he na 0 (by omega) (fun j hj => absurd hj (Nat.not_lt_zero j))
    show Goes _ _ _
    unfold p42
    repeat' first
      | with_reducible refine goes_if (fun h => ?_) (fun h => ?_) <;> (try simp only [SH] at h)
      | exact goes_none.mpr (by omega)
    all_goals first | (exfalso; omega) | exact hm
  · have hd : decide ((S.mkl na fun j => ta (j + aa)) = (S.mkl nb fun j => tb (j + ab))) = false := decide_eq_false (fun e => he (mkl_inj.mp e).1)
    rw [hd]
    show Goes _ _ _
    unfold p42
    repeat' first
      | with_reducible refine goes_if (fun h => ?_) (fun h => ?_) <;> (try simp only [SH] at h)
      | exact goes_none.mpr (by omega)
    all_goals first | (exfalso; omega) | rfl
theorem k42_ok  : k42.ok Tryd.prog := by
  intro x hx
  obtain ⟨⟨aa, na, ma, ta, _⟩, ⟨ab, nb, mb, tb, _⟩, _⟩ := x
  obtain ⟨h1, h2⟩ := a42 aa na ma ta ab nb mb tb (s42 aa na ma ta ab nb mb tb (of_dec hx rfl))
  exact ⟨⟨400, (by decide : 2 + 1 + 0 ≤ 400), h1⟩, h2⟩
noncomputable def xE0 (test : Bool → Prop → Prop → Prop) : Ext := consX test [k42]
theorem xE0_ok  : ExtOk Tryd.prog (xE0 cond) := consX_ok ⟨k42_ok, trivial⟩
namespace S
def samI (n1 : Bool) (n : Nat) (t : Nat → Int) (n2 : Bool) (m : Nat) (u : Nat → Int) : Bool := decide (n1 = n2 ∧ mkl n t = mkl m u)
end S
abbrev St20  := Empty
abbrev Rt20  := Bool
noncomputable def V20 (n1 : Bool) (ap np mp : Nat) (tp : Nat → Int) (n2 : Bool) (aq nq mq : Nat) (tq : Nat → Int) (r : Rt20) : PV := PV.bool r
noncomputable def N20 (n1 : Bool) (ap np mp : Nat) (tp : Nat → Int) (n2 : Bool) (aq nq mq : Nat) (tq : Nat → Int) (r : Rt20) : List Blk := []
noncomputable def I20 (n1 : Bool) (ap np mp : Nat) (tp : Nat → Int) (n2 : Bool) (aq nq mq : Nat) (tq : Nat → Int) : St20 → Hd := fun s => s.elim
noncomputable def q20 (n1 : Bool) (ap np mp : Nat) (tp : Nat → Int) (n2 : Bool) (aq nq mq : Nat) (tq : Nat → Int) : St20 → Option (St20 ⊕ Rt20) := fun s => s.elim
noncomputable def p20 (n1 : Bool) (ap np mp : Nat) (tp : Nat → Int) (n2 : Bool) (aq nq mq : Nat) (tq : Nat → Int) : Option (St20 ⊕ Rt20) := bif (n1)
 then (bif (n2)
 then (bif (decide (ap + np ≤ mp ∧ np ≤ 1000000 ∧ aq + nq ≤ mq ∧ nq ≤ 1000000))
 then (bif (decide ((S.mkl np fun j => tp (j + ap)) = S.mkl nq fun j => tq (j + aq)))
 then (some (.inr (true)))
 else (some (.inr (false))))
 else (none))
 else (some (.inr (false))))
 else (bif (n2)
 then (some (.inr (false)))
 else (bif (decide (ap + np ≤ mp ∧ np ≤ 1000000 ∧ aq + nq ≤ mq ∧ nq ≤ 1000000))
 then (bif (decide ((S.mkl np fun j => tp (j + ap)) = S.mkl nq fun j => tq (j + aq)))
 then (some (.inr (true)))
 else (some (.inr (false))))
 else (none)))
noncomputable def Te20 (test : Bool → Prop → Prop → Prop) (Kst : KS) (Kret : KR) (n1 : Bool) (ap np mp : Nat) (tp : Nat → Int) (n2 : Bool) (aq nq mq : Nat) (tq : Nat → Int) : Prop :=
  test (n1)
 (test (n2)
 (test (decide (ap + np ≤ mp ∧ np ≤ 1000000 ∧ aq + nq ≤ mq ∧ nq ≤ 1000000))
 (test (decide ((S.mkl np fun j => tp (j + ap)) = S.mkl nq fun j => tq (j + aq)))
 (Kret (PV.tf true) ([[(1, false, Blk.cols mq [Col.int IntKind.i64 tq]),
 (0, false, Blk.cols mp [Col.int IntKind.i64 tp])]]) (5))
 (Kret (PV.tf false) ([[(1, false, Blk.cols mq [Col.int IntKind.i64 tq]),
 (0, false, Blk.cols mp [Col.int IntKind.i64 tp])]]) (5)))
 (False))
 (Kret (PV.tf false) ([[(1, false, Blk.cols mq [Col.int IntKind.i64 tq]),
 (0, false, Blk.cols mp [Col.int IntKind.i64 tp])]]) (4)))
 (test (n2)
 (Kret (PV.tf false) ([[(1, false, Blk.cols mq [Col.int IntKind.i64 tq]),
 (0, false, Blk.cols mp [Col.int IntKind.i64 tp])]]) (4))
 (test (decide (ap + np ≤ mp ∧ np ≤ 1000000 ∧ aq + nq ≤ mq ∧ nq ≤ 1000000))
 (test (decide ((S.mkl np fun j => tp (j + ap)) = S.mkl nq fun j => tq (j + aq)))
 (Kret (PV.tf true) ([[(1, false, Blk.cols mq [Col.int IntKind.i64 tq]),
 (0, false, Blk.cols mp [Col.int IntKind.i64 tp])]]) (5))
 (Kret (PV.tf false) ([[(1, false, Blk.cols mq [Col.int IntKind.i64 tq]),
 (0, false, Blk.cols mp [Col.int IntKind.i64 tp])]]) (5)))
 (False)))
theorem te20 (test : Bool → Prop → Prop → Prop) (Kst : KS) (Kret : KR) (n1 : Bool) (ap np mp : Nat) (tp : Nat → Int) (n2 : Bool) (aq nq mq : Nat) (tq : Nat → Int) : run test Tryd.env true (xE0 test) true 400 ⟨20, [.cd (mkFn Tryd.f20).body], argT 0 [.agg [.bool n1, .loose ⟨0, 1, ap, 0⟩ np], .agg [.bool n2, .loose ⟨1, 1, aq, 0⟩ nq]], [[], [(0, (false, .cols mp [.int .i64 tp])), (1, (false, .cols mq [.int .i64 tq]))]], 2⟩ (proj 2 [] Kst Kret) =
  Te20 test Kst Kret n1 ap np mp tp n2 aq nq mq tq := by kernel_rfl
attribute [local irreducible] Int.subNatNat in
theorem be20 (n1 : Bool) (ap np mp : Nat) (tp : Nat → Int) (n2 : Bool) (aq nq mq : Nat) (tq : Nat → Int) (Kst : KS) (Kret : KR) (x : St20 ⊕ Rt20) (hS : HS 2 400 ((I20 n1 ap np mp tp n2 aq nq mq tq)) Kst x) (hR : HR 2 400 ((V20 n1 ap np mp tp n2 aq nq mq tq)) (fun r => [newL (2 + 1) ((N20 n1 ap np mp tp n2 aq nq mq tq) r) ++ [(0, (false, .cols mp [.int .i64 tp])), (1, (false, .cols mq [.int .i64 tq]))]]) Kret x) (h : p20 n1 ap np mp tp n2 aq nq mq tq = some x) : Te20 cond Kst Kret n1 ap np mp tp n2 aq nq mq tq := by
  unfold Te20
  unfold p20 at h
  refine bif_split h
   (fun c0 h => bif_split h
   (fun c1 h => bif_split h
   (fun c2 h => bif_split h
   (fun c3 h => ?_)
   (fun c3 h => ?_))
   (fun c2 h => ?_))
   (fun c1 h => ?_))
   (fun c0 h => bif_split h
   (fun c1 h => ?_)
   (fun c1 h => bif_split h
   (fun c2 h => bif_split h
   (fun c3 h => ?_)
   (fun c3 h => ?_))
   (fun c2 h => ?_)))
  all_goals first
    | exact ret_at hR _ h (fun n => n) rfl rfl rfl (rn_bool_tf rfl) rfl (entl_bor (use_lo rfl) rfl rfl (entl_bor (use_lo rfl) rfl rfl entl_nil))
    | exact no_some h
theorem a20 (n1 : Bool) (ap np mp : Nat) (tp : Nat → Int) (n2 : Bool) (aq nq mq : Nat) (tq : Nat → Int) {r : Rt20} (h : Goes ((q20 n1 ap np mp tp n2 aq nq mq tq)) ((p20 n1 ap np mp tp n2 aq nq mq tq)) r) : CallR Tryd.prog 20 [.agg [.bool n1, .loose ⟨0, 1, ap, 0⟩ np], .agg [.bool n2, .loose ⟨1, 1, aq, 0⟩ nq]] [[(0, (false, .cols mp [.int .i64 tp])), (1, (false, .cols mq [.int .i64 tq]))]] 2 ((V20 n1 ap np mp tp n2 aq nq mq tq) r) ((fun r => [newL (2 + 1) ((N20 n1 ap np mp tp n2 aq nq mq tq) r) ++ [(0, (false, .cols mp [.int .i64 tp])), (1, (false, .cols mq [.int .i64 tq]))]]) r) 400 ∧ ∃ F, Tryd.prog.funcs[20]? = some F ∧ F.body.isSome = true ∧ (F.name == "runtime.NumGoroutine") = false := by
  refine dec_calls (f := 20) (lo := 2) (hi := 400) (H := [[(0, (false, .cols mp [.int .i64 tp])), (1, (false, .cols mq [.int .i64 tq]))]]) (args := [.agg [.bool n1, .loose ⟨0, 1, ap, 0⟩ np], .agg [.bool n2, .loose ⟨1, 1, aq, 0⟩ nq]]) Tryd.envOk Tryd.mixed xE0_ok ((I20 n1 ap np mp tp n2 aq nq mq tq)) ((V20 n1 ap np mp tp n2 aq nq mq tq)) (fun r => [newL (2 + 1) ((N20 n1 ap np mp tp n2 aq nq mq tq) r) ++ [(0, (false, .cols mp [.int .i64 tp])), (1, (false, .cols mq [.int .i64 tq]))]]) (fn := mkFn Tryd.f20) (ts := []) (n := 400) rfl (by decide) (by simp) (names_of rfl) ?_ ?_ ?_ h
  · intro s; exact s.elim
  · intro Kst Kret x hS hR h
    exact Holds.eq (te20 cond Kst Kret n1 ap np mp tp n2 aq nq mq tq) (be20 n1 ap np mp tp n2 aq nq mq tq Kst Kret x hS hR h)
  · intro Kst Kret x hS hR s h; exact s.elim
noncomputable def k20  : Con := ⟨20, [.agg [.plain (.bool), .list [.int .i64]], .agg [.plain (.bool), .list [.int .i64]]], fun (x : (Bool × (Nat × Nat × Nat × (Nat → Int) × Unit) × Unit) × (Bool × (Nat × Nat × Nat × (Nat → Int) × Unit) × Unit) × Unit) => (fun (n1 : Bool) (ap np mp : Nat) (tp : Nat → Int) (n2 : Bool) (aq nq mq : Nat) (tq : Nat → Int) => decide ((ap + np ≤ mp ∧ np ≤ 1000000) ∧ aq + nq ≤ mq ∧ nq ≤ 1000000)) x.1.1 x.1.2.1.1 x.1.2.1.2.1 x.1.2.1.2.2.1 x.1.2.1.2.2.2.1 x.2.1.1 x.2.1.2.1.1 x.2.1.2.1.2.1 x.2.1.2.1.2.2.1 x.2.1.2.1.2.2.2.1, fun (x : (Bool × (Nat × Nat × Nat × (Nat → Int) × Unit) × Unit) × (Bool × (Nat × Nat × Nat × (Nat → Int) × Unit) × Unit) × Unit) => (fun (n1 : Bool) (ap np mp : Nat) (tp : Nat → Int) (n2 : Bool) (aq nq mq : Nat) (tq : Nat → Int) => (V20 n1 ap np mp tp n2 aq nq mq tq) (S.samI n1 np (fun j => tp (j + ap)) n2 nq (fun j => tq (j + aq)))) x.1.1 x.1.2.1.1 x.1.2.1.2.1 x.1.2.1.2.2.1 x.1.2.1.2.2.2.1 x.2.1.1 x.2.1.2.1.1 x.2.1.2.1.2.1 x.2.1.2.1.2.2.1 x.2.1.2.1.2.2.2.1, fun (x : (Bool × (Nat × Nat × Nat × (Nat → Int) × Unit) × Unit) × (Bool × (Nat × Nat × Nat × (Nat → Int) × Unit) × Unit) × Unit) => (fun (n1 : Bool) (ap np mp : Nat) (tp : Nat → Int) (n2 : Bool) (aq nq mq : Nat) (tq : Nat → Int) => (N20 n1 ap np mp tp n2 aq nq mq tq) (S.samI n1 np (fun j => tp (j + ap)) n2 nq (fun j => tq (j + aq)))) x.1.1 x.1.2.1.1 x.1.2.1.2.1 x.1.2.1.2.2.1 x.1.2.1.2.2.2.1 x.2.1.1 x.2.1.2.1.1 x.2.1.2.1.2.1 x.2.1.2.1.2.2.1 x.2.1.2.1.2.2.2.1, fun _ _ => .dead⟩
theorem s20 (n1 : Bool) (ap np mp : Nat) (tp : Nat → Int) (n2 : Bool) (aq nq mq : Nat) (tq : Nat → Int) (hp : (ap + np ≤ mp ∧ np ≤ 1000000) ∧ aq + nq ≤ mq ∧ nq ≤ 1000000) : Goes ((q20 n1 ap np mp tp n2 aq nq mq tq)) ((p20 n1 ap np mp tp n2 aq nq mq tq)) (S.samI n1 np (fun j => tp (j + ap)) n2 nq (fun j => tq (j + aq))) := by
  unfold S.samI
  by_cases h : S.mkl np (fun j => tp (j + ap)) = S.mkl nq (fun j => tq (j + aq))
  · have e : decide (n1 = n2 ∧ S.mkl np (fun j => tp (j + ap)) = S.mkl nq (fun j => tq (j + aq))) = (n1 == n2) := by
      rw [Bool.eq_iff_iff, decide_eq_true_eq, beq_iff_eq]
      exact ⟨fun x => x.1, fun x => ⟨x, h⟩⟩
    rw [e]
    unfold p20
    rw [decide_eq_true h]
    cases n1 <;> cases n2 <;>
    repeat' first
      | with_reducible exact goes_inr.mpr rfl
      | (refine goes_ok ?_ ?_; focus (first | with_reducible exact beq_self_eq_true _ | (simp only [Bool.and_eq_true, decide_eq_true_eq, and_self, eq_self]; done) | with_reducible exact decide_eq_true trivial | with_reducible exact decide_eq_true rfl | (simp only [eq_self, decide_true, Bool.and_self, Bool.and_true, Bool.true_and]; done) | (apply decide_eq_true; omega) | (rw [lim64]; apply decide_eq_true; omega) | (apply decide_eq_true; simp only [mkl_len, mkl_zero, List.length_nil, true_and, and_true, and_self, Nat.zero_add, Nat.add_zero, Nat.le_refl]; done) | (apply decide_eq_true; simp only [mkl_len, mkl_zero, List.length_nil, true_and, and_true, and_self, Nat.zero_add, Nat.add_zero, Nat.le_refl]; omega) | decide))
      | (refine goes_no ?_ ?_; focus (first | with_reducible exact bne_self_eq_false _ | (apply decide_eq_false; omega) | decide))

  · have e : decide (n1 = n2 ∧ S.mkl np (fun j => tp (j + ap)) = S.mkl nq (fun j => tq (j + aq))) = false := decide_eq_false fun x => h x.2
    rw [e]
    unfold p20
    rw [decide_eq_false h]
    cases n1 <;> cases n2 <;>
    repeat' first
      | with_reducible exact goes_inr.mpr rfl
      | (refine goes_ok ?_ ?_; focus (first | with_reducible exact beq_self_eq_true _ | (simp only [Bool.and_eq_true, decide_eq_true_eq, and_self, eq_self]; done) | with_reducible exact decide_eq_true trivial | with_reducible exact decide_eq_true rfl | (simp only [eq_self, decide_true, Bool.and_self, Bool.and_true, Bool.true_and]; done) | (apply decide_eq_true; omega) | (rw [lim64]; apply decide_eq_true; omega) | (apply decide_eq_true; simp only [mkl_len, mkl_zero, List.length_nil, true_and, and_true, and_self, Nat.zero_add, Nat.add_zero, Nat.le_refl]; done) | (apply decide_eq_true; simp only [mkl_len, mkl_zero, List.length_nil, true_and, and_true, and_self, Nat.zero_add, Nat.add_zero, Nat.le_refl]; omega) | decide))
      | (refine goes_no ?_ ?_; focus (first | with_reducible exact bne_self_eq_false _ | (apply decide_eq_false; omega) | decide))
theorem k20_ok  : k20.ok Tryd.prog := by
  intro x hx
  obtain ⟨⟨n1, ⟨ap, np, mp, tp, _⟩, _⟩, ⟨n2, ⟨aq, nq, mq, tq, _⟩, _⟩, _⟩ := x
  obtain ⟨h1, h2⟩ := a20 n1 ap np mp tp n2 aq nq mq tq (s20 n1 ap np mp tp n2 aq nq mq tq (of_dec hx rfl))
  exact ⟨⟨400, (by decide : 2 + 1 + 0 ≤ 400), h1⟩, h2⟩
noncomputable def k12  : Con := ⟨12, [], fun _ => true, fun _ => .bool true, fun _ => [], fun _ _ => .dead⟩
theorem te12 (Kst : KS) (Kret : KR) : run cond Tryd.env true noX false 4000 ⟨12, [.cd (mkFn Tryd.f12).body], [], [[], []], 0⟩ (proj 0 [] Kst Kret) = Kret (.tf true) [[]] 483 := by kernel_rfl
theorem k12_ok  : k12.ok Tryd.prog := awake_ok (fn := mkFn Tryd.f12) (hi := 484) (n := 4000) Tryd.envOk Tryd.mixed noX_ok rfl (by decide) (by decide : Nat.ble 483 484 = true) te12
theorem valF_zero  : ∀ {k i : Nat}, S.valF (fun _ => 0) i k = 0
  | 0, _ => rfl
  | k + 1, i => by simp only [S.valF]; rw [valF_zero]; rfl
theorem upd_dig  {R : List Int} {n p : Nat} {v : Int} (hR : R.length = n) (hd : ∀ j, j < n → 0 ≤ S.at' R j ∧ S.at' R j < 1000000) (hv : 0 ≤ v ∧ v < 1000000) : ∀ j, j < n → 0 ≤ S.at' (S.mkl n fun j => bif Nat.beq j p then v else S.at' R j) j ∧ S.at' (S.mkl n fun j => bif Nat.beq j p then v else S.at' R j) j < 1000000 := fun j hj => by
  rw [at_mkl hj]
  by_cases h : j = p
  · subst h; rw [Nat.beq_refl, cond_true]; exact hv
  · rw [nbeq_no h, cond_false]; exact hd j hj
theorem upd_at  {R : List Int} {n p j : Nat} {v : Int} (hj : j < n) : S.at' (S.mkl n fun j => bif Nat.beq j p then v else S.at' R j) j = if j = p then v else S.at' R j := by
  rw [at_mkl hj]
  by_cases h : j = p
  · subst h; rw [Nat.beq_refl, cond_true, if_pos rfl]
  · rw [nbeq_no h, cond_false, if_neg h]
theorem md_sum  {x : Int} (h : 0 ≤ x ∧ x < 1000000000000) : 0 ≤ Int.tmod x 1000000 ∧ Int.tmod x 1000000 < 1000000 ∧ 0 ≤ Int.tdiv x 1000000 ∧ Int.tdiv x 1000000 < 1000000 ∧ x = Int.tmod x 1000000 + 1000000 * Int.tdiv x 1000000 := by
  rw [tmB h.1, tdB h.1]
  omega
theorem mul_dig  {x y : Int} (hx : 0 ≤ x ∧ x < 1000000) (hy : 0 ≤ y ∧ y < 1000000) : 0 ≤ x * y ∧ x * y ≤ 999998000001 := by
  refine ⟨Int.mul_nonneg hx.1 hy.1, ?_⟩
  have h1 : x * y ≤ 999999 * y := Int.mul_le_mul_of_nonneg_right (by omega) hy.1
  omega
inductive St52 where
  | h0 (x0 : Int) (x1 : List Int)
  | h1 (x0 : Int) (x1 : Int) (x2 : Int) (x3 : Int) (x4 : Int) (x5 : List Int)
abbrev Rt52  := List Int
noncomputable def V52 (ap np mp : Nat) (tp : Nat → Int) (aq nq mq : Nat) (tq : Nat → Int) (r : Rt52) : PV := PV.own (3) (1) (List.length r)
noncomputable def N52 (ap np mp : Nat) (tp : Nat → Int) (aq nq mq : Nat) (tq : Nat → Int) (r : Rt52) : List Blk := [Blk.cols (List.length r) [Col.int IntKind.i64 fun j => S.at' r j]]
noncomputable def I52 (ap np mp : Nat) (tp : Nat → Int) (aq nq mq : Nat) (tq : Nat → Int) : St52 → Hd
  | .h0 x0 x1 => ⟨hd Tryd.f52 0, [PV.loose (PA.mk (1) (1) aq (0)) nq,
 PV.own (2) (1) (List.length x1), PV.unk, PV.unk, PV.unk,
 PV.loose (PA.mk (0) (1) ap (0)) np, PV.int IntKind.i64 (↑np : Int),
 PV.int IntKind.i64 x0, PV.unk, PV.unk, PV.unk], [[(2, (true, Blk.cols (List.length x1) [Col.int IntKind.i64 fun j => S.at' x1 j]))], [(0, (false, .cols mp [.int .i64 tp])), (1, (false, .cols mq [.int .i64 tq]))]], 3⟩
  | .h1 x0 x1 x2 x3 x4 x5 => ⟨hd Tryd.f52 1, [PV.loose (PA.mk (1) (1) aq (0)) nq,
 PV.own (2) (1) (List.length x5), PV.int IntKind.i64 x0, PV.int IntKind.i64 x1,
 PV.int IntKind.i64 x2, PV.loose (PA.mk (0) (1) ap (0)) np,
 PV.int IntKind.i64 (↑np : Int), PV.int IntKind.i64 x3,
 PV.loose (PA.mk (1) (1) aq (0)) nq, PV.int IntKind.i64 (↑nq : Int),
 PV.int IntKind.i64 x4], [[(2, (true, Blk.cols (List.length x5) [Col.int IntKind.i64 fun j => S.at' x5 j]))], [(0, (false, .cols mp [.int .i64 tp])), (1, (false, .cols mq [.int .i64 tq]))]], 3⟩
noncomputable def q52 (ap np mp : Nat) (tp : Nat → Int) (aq nq mq : Nat) (tq : Nat → Int) : St52 → Option (St52 ⊕ Rt52)
  | .h0 x0 x1 => bif (decide (x0 < (↑np : Int)))
 then (bif (decide ((0 : Int) ≤ x0 ∧ x0 < (↑np : Int)))
 then (bif (decide (Int.toNat x0 + ap < mp))
 then (some (.inl (.h1 (x0) (tp (Int.toNat x0 + ap)) ((0 : Int)) (x0) ((0 : Int)) (x1))))
 else (none))
 else (none))
 else (bif (decide (List.length x1 ≤ List.length x1))
 then (bif (decide (List.length x1 ≤ 1000000))
 then (some (.inr (S.trim (S.mkl (List.length x1) fun j => S.at' x1 j))))
 else (none))
 else (none))
  | .h1 x0 x1 x2 x3 x4 x5 => bif (decide (x4 < (↑nq : Int)))
 then (bif (decide ((0 : Int) ≤ x4 ∧ x4 < (↑nq : Int)))
 then (bif (decide (Int.toNat x4 + aq < mq))
 then (bif (lim IntKind.i64 (x0 + x4))
 then (bif (decide ((0 : Int) ≤ x0 + x4 ∧ x0 + x4 < (↑(List.length x5) : Int)))
 then (bif (decide (Int.toNat (x0 + x4) < List.length x5))
 then (bif (lim IntKind.i64 (x1 * tq (Int.toNat x4 + aq)))
 then (bif (lim IntKind.i64 (S.at' x5 (Int.toNat (x0 + x4)) + x1 * tq (Int.toNat x4 + aq)))
 then (bif (lim IntKind.i64 (x2 + (S.at' x5 (Int.toNat (x0 + x4)) + x1 * tq (Int.toNat x4 + aq))))
 then (bif (lim IntKind.i64
 (Int.tdiv (x2 + (S.at' x5 (Int.toNat (x0 + x4)) + x1 * tq (Int.toNat x4 + aq))) (1000000 : Int)))
 then (bif (lim IntKind.i64 (x4 + (1 : Int)))
 then (some (.inl (.h1 (x0) (x1) (Int.tdiv (x2 + (S.at' x5 (Int.toNat (x0 + x4)) + x1 * tq (Int.toNat x4 + aq))) (1000000 : Int)) (x3) (x4 + (1 : Int)) (S.mkl (List.length x5) fun j =>
 bif Nat.beq j (Int.toNat (x0 + x4)) then
 Int.tmod (x2 + (S.at' x5 (Int.toNat (x0 + x4)) + x1 * tq (Int.toNat x4 + aq))) (1000000 : Int)
 else S.at' x5 j))))
 else (none))
 else (none))
 else (none))
 else (none))
 else (none))
 else (none))
 else (none))
 else (none))
 else (none))
 else (none))
 else (bif (lim IntKind.i64 (x0 + (↑nq : Int)))
 then (bif (decide ((0 : Int) ≤ x0 + (↑nq : Int) ∧ x0 + (↑nq : Int) < (↑(List.length x5) : Int)))
 then (bif (decide (Int.toNat (x0 + (↑nq : Int)) < List.length x5))
 then (bif (lim IntKind.i64 (x3 + (1 : Int)))
 then (some (.inl (.h0 (x3 + (1 : Int)) (S.mkl (List.length x5) fun j => bif Nat.beq j (Int.toNat (x0 + (↑nq : Int))) then x2 else S.at' x5 j))))
 else (none))
 else (none))
 else (none))
 else (none))
noncomputable def p52 (ap np mp : Nat) (tp : Nat → Int) (aq nq mq : Nat) (tq : Nat → Int) : Option (St52 ⊕ Rt52) := bif ((↑np : Int) == (0 : Int))
 then (some (.inr ([])))
 else (bif ((↑nq : Int) == (0 : Int))
 then (some (.inr ([])))
 else (bif (lim IntKind.i64 ((↑np : Int) + (↑nq : Int)))
 then (bif (decide
 ((0 : Int) ≤ (↑np : Int) + (↑nq : Int) ∧
 (↑np : Int) + (↑nq : Int) ≤ (↑np : Int) + (↑nq : Int) ∧ (↑np : Int) + (↑nq : Int) ≤ (1000000 : Int)))
 then (some (.inl (.h0 ((0 : Int)) (S.mkl (Int.toNat ((↑np : Int) + (↑nq : Int))) fun j => (0 : Int)))))
 else (none))
 else (none)))
noncomputable def Te52 (test : Bool → Prop → Prop → Prop) (Kst : KS) (Kret : KR) (ap np mp : Nat) (tp : Nat → Int) (aq nq mq : Nat) (tq : Nat → Int) : Prop :=
  test ((↑np : Int) == (0 : Int))
 (Kret (PV.nils) ([[(1, false, Blk.cols mq [Col.int IntKind.i64 tq]),
 (0, false, Blk.cols mp [Col.int IntKind.i64 tp])]]) (2))
 (test ((↑nq : Int) == (0 : Int))
 (Kret (PV.nils) ([[(1, false, Blk.cols mq [Col.int IntKind.i64 tq]),
 (0, false, Blk.cols mp [Col.int IntKind.i64 tp])]]) (2))
 (test (lim IntKind.i64 ((↑np : Int) + (↑nq : Int)))
 (test (decide
 ((0 : Int) ≤ (↑np : Int) + (↑nq : Int) ∧
 (↑np : Int) + (↑nq : Int) ≤ (↑np : Int) + (↑nq : Int) ∧ (↑np : Int) + (↑nq : Int) ≤ (1000000 : Int)))
 (Kst (hd Tryd.f52 0) ([PV.loose (PA.mk (1) (1) aq (0)) nq,
 PV.own (2) (1) (Int.toNat ((↑np : Int) + (↑nq : Int))), PV.unk, PV.unk,
 PV.unk, PV.loose (PA.mk (0) (1) ap (0)) np,
 PV.int IntKind.i64 (↑np : Int), PV.int IntKind.i64 (0 : Int), PV.unk, PV.unk,
 PV.unk]) ([[(1, false, Blk.cols mq [Col.int IntKind.i64 tq]),
 (0, false, Blk.cols mp [Col.int IntKind.i64 tp]),
 (2, true,
 Blk.cols (Int.toNat ((↑np : Int) + (↑nq : Int)))
 [Col.int IntKind.i64 fun (x : Nat) => (0 : Int)])]]) (3))
 (False))
 (False)))
theorem te52 (test : Bool → Prop → Prop → Prop) (Kst : KS) (Kret : KR) (ap np mp : Nat) (tp : Nat → Int) (aq nq mq : Nat) (tq : Nat → Int) : run test Tryd.env true (xD test) true 400 ⟨52, [.cd (mkFn Tryd.f52).body], argT 0 [.loose ⟨0, 1, ap, 0⟩ np, .loose ⟨1, 1, aq, 0⟩ nq], [[], [(0, (false, .cols mp [.int .i64 tp])), (1, (false, .cols mq [.int .i64 tq]))]], 2⟩ (proj 2 [1, 5, 6, 7, 8, 25, 26, 27, 32, 33, 34] Kst Kret) =
  Te52 test Kst Kret ap np mp tp aq nq mq tq := by kernel_rfl
noncomputable def T52_0 (test : Bool → Prop → Prop → Prop) (Kst : KS) (Kret : KR) (ap np mp : Nat) (tp : Nat → Int) (aq nq mq : Nat) (tq : Nat → Int) (x0 : Int) (x1 : List Int) : Prop :=
  test (decide (x0 < (↑np : Int)))
 (test (decide ((0 : Int) ≤ x0 ∧ x0 < (↑np : Int)))
 (test (decide (Int.toNat x0 + ap < mp))
 (Kst (hd Tryd.f52 1) ([PV.loose (PA.mk (1) (1) aq (0)) nq,
 PV.own (2) (1) (List.length x1), PV.int IntKind.i64 x0,
 PV.int IntKind.i64 (tp (Int.toNat x0 + ap)), PV.int IntKind.i64 (0 : Int),
 PV.loose (PA.mk (0) (1) ap (0)) np, PV.int IntKind.i64 (↑np : Int),
 PV.int IntKind.i64 x0, PV.loose (PA.mk (1) (1) aq (0)) nq,
 PV.int IntKind.i64 (↑nq : Int), PV.int IntKind.i64 (0 : Int)]) ([[(1, false, Blk.cols mq [Col.int IntKind.i64 tq]),
 (0, false, Blk.cols mp [Col.int IntKind.i64 tp]),
 (2, true,
 Blk.cols (List.length x1) [Col.int IntKind.i64 fun j => S.at' x1 j])]]) (3))
 (False))
 (False))
 (test (decide (List.length x1 ≤ List.length x1))
 (test (decide (List.length x1 ≤ 1000000))
 (Kret (PV.own (2) (1)
 (List.length (S.trim (S.mkl (List.length x1) fun j => S.at' x1 j)))) ([[(1, false, Blk.cols mq [Col.int IntKind.i64 tq]),
 (0, false, Blk.cols mp [Col.int IntKind.i64 tp]),
 (2, true,
 Blk.cols (List.length (S.trim (S.mkl (List.length x1) fun j => S.at' x1 j)))
 [Col.int IntKind.i64 fun j =>
 S.at' (S.trim (S.mkl (List.length x1) fun j => S.at' x1 j)) j])]]) (4))
 (False))
 (False))
theorem t52_0 (test : Bool → Prop → Prop → Prop) (Kst : KS) (Kret : KR) (ap np mp : Nat) (tp : Nat → Int) (aq nq mq : Nat) (tq : Nat → Int) (x0 : Int) (x1 : List Int) : run test Tryd.env true (xD test) true 400 ⟨52, hd Tryd.f52 0, zipT [1, 5, 6, 7, 8, 25, 26, 27, 32, 33, 34] [PV.loose (PA.mk (1) (1) aq (0)) nq,
 PV.own (2) (1) (List.length x1), PV.unk, PV.unk, PV.unk,
 PV.loose (PA.mk (0) (1) ap (0)) np, PV.int IntKind.i64 (↑np : Int),
 PV.int IntKind.i64 x0, PV.unk, PV.unk, PV.unk], [[(2, (true, Blk.cols (List.length x1) [Col.int IntKind.i64 fun j => S.at' x1 j]))], [(0, (false, .cols mp [.int .i64 tp])), (1, (false, .cols mq [.int .i64 tq]))]], 3⟩ (proj 2 [1, 5, 6, 7, 8, 25, 26, 27, 32, 33, 34] Kst Kret) =
  T52_0 test Kst Kret ap np mp tp aq nq mq tq x0 x1 := by kernel_rfl
noncomputable def T52_1 (test : Bool → Prop → Prop → Prop) (Kst : KS) (Kret : KR) (ap np mp : Nat) (tp : Nat → Int) (aq nq mq : Nat) (tq : Nat → Int) (x0 x1 x2 x3 x4 : Int) (x5 : List Int) : Prop :=
  test (decide (x4 < (↑nq : Int)))
 (test (decide ((0 : Int) ≤ x4 ∧ x4 < (↑nq : Int)))
 (test (decide (Int.toNat x4 + aq < mq))
 (test (lim IntKind.i64 (x0 + x4))
 (test (decide ((0 : Int) ≤ x0 + x4 ∧ x0 + x4 < (↑(List.length x5) : Int)))
 (test (decide (Int.toNat (x0 + x4) < List.length x5))
 (test (lim IntKind.i64 (x1 * tq (Int.toNat x4 + aq)))
 (test (lim IntKind.i64 (S.at' x5 (Int.toNat (x0 + x4)) + x1 * tq (Int.toNat x4 + aq)))
 (test (lim IntKind.i64 (x2 + (S.at' x5 (Int.toNat (x0 + x4)) + x1 * tq (Int.toNat x4 + aq))))
 (test (lim IntKind.i64 (x0 + x4))
 (test (false)
 (False)
 (test (decide ((0 : Int) ≤ x0 + x4 ∧ x0 + x4 < (↑(List.length x5) : Int)))
 (test (decide (Int.toNat (x0 + x4) < List.length x5))
 (test (false)
 (False)
 (test (lim IntKind.i64
 (Int.tdiv (x2 + (S.at' x5 (Int.toNat (x0 + x4)) + x1 * tq (Int.toNat x4 + aq))) (1000000 : Int)))
 (test (lim IntKind.i64 (x4 + (1 : Int)))
 (Kst (hd Tryd.f52 1) ([PV.loose (PA.mk (1) (1) aq (0)) nq,
 PV.own (2) (1) (List.length x5), PV.int IntKind.i64 x0, PV.int IntKind.i64 x1,
 PV.int IntKind.i64
 (Int.tdiv (x2 + (S.at' x5 (Int.toNat (x0 + x4)) + x1 * tq (Int.toNat x4 + aq))) (1000000 : Int)),
 PV.loose (PA.mk (0) (1) ap (0)) np, PV.int IntKind.i64 (↑np : Int),
 PV.int IntKind.i64 x3, PV.loose (PA.mk (1) (1) aq (0)) nq,
 PV.int IntKind.i64 (↑nq : Int), PV.int IntKind.i64 (x4 + (1 : Int))]) ([[(1, false, Blk.cols mq [Col.int IntKind.i64 tq]),
 (0, false, Blk.cols mp [Col.int IntKind.i64 tp]),
 (2, true,
 Blk.cols (List.length x5)
 [Col.int IntKind.i64 fun j =>
 bif Nat.beq j (Int.toNat (x0 + x4)) then
 Int.tmod (x2 + (S.at' x5 (Int.toNat (x0 + x4)) + x1 * tq (Int.toNat x4 + aq))) (1000000 : Int)
 else S.at' x5 j])]]) (3))
 (False))
 (False)))
 (False))
 (False)))
 (False))
 (False))
 (False))
 (False))
 (False))
 (False))
 (False))
 (False))
 (False))
 (test (lim IntKind.i64 (x0 + (↑nq : Int)))
 (test (decide ((0 : Int) ≤ x0 + (↑nq : Int) ∧ x0 + (↑nq : Int) < (↑(List.length x5) : Int)))
 (test (decide (Int.toNat (x0 + (↑nq : Int)) < List.length x5))
 (test (lim IntKind.i64 (x3 + (1 : Int)))
 (Kst (hd Tryd.f52 0) ([PV.loose (PA.mk (1) (1) aq (0)) nq,
 PV.own (2) (1) (List.length x5), PV.int IntKind.i64 x0, PV.int IntKind.i64 x1,
 PV.int IntKind.i64 x2, PV.loose (PA.mk (0) (1) ap (0)) np,
 PV.int IntKind.i64 (↑np : Int), PV.int IntKind.i64 (x3 + (1 : Int)),
 PV.loose (PA.mk (1) (1) aq (0)) nq, PV.int IntKind.i64 (↑nq : Int),
 PV.int IntKind.i64 x4]) ([[(1, false, Blk.cols mq [Col.int IntKind.i64 tq]),
 (0, false, Blk.cols mp [Col.int IntKind.i64 tp]),
 (2, true,
 Blk.cols (List.length x5)
 [Col.int IntKind.i64 fun j =>
 bif Nat.beq j (Int.toNat (x0 + (↑nq : Int))) then x2 else S.at' x5 j])]]) (3))
 (False))
 (False))
 (False))
 (False))
theorem t52_1 (test : Bool → Prop → Prop → Prop) (Kst : KS) (Kret : KR) (ap np mp : Nat) (tp : Nat → Int) (aq nq mq : Nat) (tq : Nat → Int) (x0 x1 x2 x3 x4 : Int) (x5 : List Int) : run test Tryd.env true (xD test) true 400 ⟨52, hd Tryd.f52 1, zipT [1, 5, 6, 7, 8, 25, 26, 27, 32, 33, 34] [PV.loose (PA.mk (1) (1) aq (0)) nq,
 PV.own (2) (1) (List.length x5), PV.int IntKind.i64 x0, PV.int IntKind.i64 x1,
 PV.int IntKind.i64 x2, PV.loose (PA.mk (0) (1) ap (0)) np,
 PV.int IntKind.i64 (↑np : Int), PV.int IntKind.i64 x3,
 PV.loose (PA.mk (1) (1) aq (0)) nq, PV.int IntKind.i64 (↑nq : Int),
 PV.int IntKind.i64 x4], [[(2, (true, Blk.cols (List.length x5) [Col.int IntKind.i64 fun j => S.at' x5 j]))], [(0, (false, .cols mp [.int .i64 tp])), (1, (false, .cols mq [.int .i64 tq]))]], 3⟩ (proj 2 [1, 5, 6, 7, 8, 25, 26, 27, 32, 33, 34] Kst Kret) =
  T52_1 test Kst Kret ap np mp tp aq nq mq tq x0 x1 x2 x3 x4 x5 := by kernel_rfl
attribute [local irreducible] Int.subNatNat in
theorem be52 (ap np mp : Nat) (tp : Nat → Int) (aq nq mq : Nat) (tq : Nat → Int) (Kst : KS) (Kret : KR) (x : St52 ⊕ Rt52) (hS : HS 2 400 ((I52 ap np mp tp aq nq mq tq)) Kst x) (hR : HR 2 400 ((V52 ap np mp tp aq nq mq tq)) (fun r => [newL (2 + 1) ((N52 ap np mp tp aq nq mq tq) r) ++ [(0, (false, .cols mp [.int .i64 tp])), (1, (false, .cols mq [.int .i64 tq]))]]) Kret x) (h : p52 ap np mp tp aq nq mq tq = some x) : Te52 cond Kst Kret ap np mp tp aq nq mq tq := by
  unfold Te52
  unfold p52 at h
  refine bif_split h
   (fun c0 h => ret_at hR _ h (fun n => bif Nat.beq n 3 then 399 else n) rfl rfl rfl (rn_own_nils rfl) rfl (entl_fresh (use_own rfl) (fresh_ok rfl) (entl_bor (use_lo rfl) rfl rfl (entl_bor (use_lo rfl) rfl rfl entl_nil))))
   (fun c0 h => bif_split h
   (fun c1 h => ret_at hR _ h (fun n => bif Nat.beq n 3 then 399 else n) rfl rfl rfl (rn_own_nils rfl) rfl (entl_fresh (use_own rfl) (fresh_ok rfl) (entl_bor (use_lo rfl) rfl rfl (entl_bor (use_lo rfl) rfl rfl entl_nil))))
   (fun c1 h => bif_split h
   (fun c2 h => bif_split h
   (fun c3 h => stop_at hS _ h (fun n => bif Nat.beq n 2 then 2 else n) rfl rfl rfl ⟨(rn_loose (use_lo rfl) rfl rfl rfl), ⟨(rn_own (use_own rfl) rfl mkl_len), ⟨(rn_unk _), ⟨(rn_unk _), ⟨(rn_unk _), ⟨(rn_loose (use_lo rfl) rfl rfl rfl), ⟨(rn_int rfl), ⟨(rn_int rfl), ⟨(rn_unk _), ⟨(rn_unk _), ⟨(rn_unk _), trivial⟩⟩⟩⟩⟩⟩⟩⟩⟩⟩⟩ rfl (entl_new (use_own rfl) rfl (Nat.le_of_eq mkl_len) (rcs_int (fun _ hj => col_mkl (fun (t : Int) => t) hj) rcs_nil) (entl_bor (use_lo rfl) rfl rfl (entl_bor (use_lo rfl) rfl rfl entl_nil))))
   (fun c3 h => no_some h))
   (fun c2 h => no_some h)))
attribute [local irreducible] Int.subNatNat in
theorem b52_0 (ap np mp : Nat) (tp : Nat → Int) (aq nq mq : Nat) (tq : Nat → Int) (Kst : KS) (Kret : KR) (x : St52 ⊕ Rt52) (hS : HS 2 400 ((I52 ap np mp tp aq nq mq tq)) Kst x) (hR : HR 2 400 ((V52 ap np mp tp aq nq mq tq)) (fun r => [newL (2 + 1) ((N52 ap np mp tp aq nq mq tq) r) ++ [(0, (false, .cols mp [.int .i64 tp])), (1, (false, .cols mq [.int .i64 tq]))]]) Kret x) (x0 : Int) (x1 : List Int) (h : (bif (decide (x0 < (↑np : Int)))
 then (bif (decide ((0 : Int) ≤ x0 ∧ x0 < (↑np : Int)))
 then (bif (decide (Int.toNat x0 + ap < mp))
 then (some (.inl (.h1 (x0) (tp (Int.toNat x0 + ap)) ((0 : Int)) (x0) ((0 : Int)) (x1))))
 else (none))
 else (none))
 else (bif (decide (List.length x1 ≤ List.length x1))
 then (bif (decide (List.length x1 ≤ 1000000))
 then (some (.inr (S.trim (S.mkl (List.length x1) fun j => S.at' x1 j))))
 else (none))
 else (none)) : Option (St52 ⊕ Rt52)) = some x) : T52_0 cond Kst Kret ap np mp tp aq nq mq tq x0 x1 := by
  unfold T52_0
  exact bif_split h
   (fun c0 h => bif_split h
   (fun c1 h => bif_split h
   (fun c2 h => stop_at hS _ h (fun n => bif Nat.beq n 2 then 2 else n) rfl rfl rfl ⟨(rn_loose (use_lo rfl) rfl rfl rfl), ⟨(rn_own (use_own rfl) rfl rfl), ⟨(rn_int rfl), ⟨(rn_int rfl), ⟨(rn_int rfl), ⟨(rn_loose (use_lo rfl) rfl rfl rfl), ⟨(rn_int rfl), ⟨(rn_int rfl), ⟨(rn_loose (use_lo rfl) rfl rfl rfl), ⟨(rn_int rfl), ⟨(rn_int rfl), trivial⟩⟩⟩⟩⟩⟩⟩⟩⟩⟩⟩ rfl (entl_new (use_own rfl) rfl (Nat.le_of_eq rfl) (rcs_int (fun _ _ => rfl) rcs_nil) (entl_bor (use_lo rfl) rfl rfl (entl_bor (use_lo rfl) rfl rfl entl_nil))))
   (fun c2 h => no_some h))
   (fun c1 h => no_some h))
   (fun c0 h => bif_split h
   (fun c1 h => bif_split h
   (fun c2 h => ret_at hR _ h (fun n => bif Nat.beq n 3 then 2 else n) rfl rfl rfl (rn_own (use_own rfl) rfl rfl) rfl (entl_new (use_own rfl) rfl (Nat.le_of_eq rfl) (rcs_int (fun _ _ => rfl) rcs_nil) (entl_bor (use_lo rfl) rfl rfl (entl_bor (use_lo rfl) rfl rfl entl_nil))))
   (fun c2 h => no_some h))
   (fun c1 h => no_some h))
attribute [local irreducible] Int.subNatNat in
theorem b52_1 (ap np mp : Nat) (tp : Nat → Int) (aq nq mq : Nat) (tq : Nat → Int) (Kst : KS) (Kret : KR) (x : St52 ⊕ Rt52) (hS : HS 2 400 ((I52 ap np mp tp aq nq mq tq)) Kst x) (hR : HR 2 400 ((V52 ap np mp tp aq nq mq tq)) (fun r => [newL (2 + 1) ((N52 ap np mp tp aq nq mq tq) r) ++ [(0, (false, .cols mp [.int .i64 tp])), (1, (false, .cols mq [.int .i64 tq]))]]) Kret x) (x0 x1 x2 x3 x4 : Int) (x5 : List Int) (h : (bif (decide (x4 < (↑nq : Int)))
 then (bif (decide ((0 : Int) ≤ x4 ∧ x4 < (↑nq : Int)))
 then (bif (decide (Int.toNat x4 + aq < mq))
 then (bif (lim IntKind.i64 (x0 + x4))
 then (bif (decide ((0 : Int) ≤ x0 + x4 ∧ x0 + x4 < (↑(List.length x5) : Int)))
 then (bif (decide (Int.toNat (x0 + x4) < List.length x5))
 then (bif (lim IntKind.i64 (x1 * tq (Int.toNat x4 + aq)))
 then (bif (lim IntKind.i64 (S.at' x5 (Int.toNat (x0 + x4)) + x1 * tq (Int.toNat x4 + aq)))
 then (bif (lim IntKind.i64 (x2 + (S.at' x5 (Int.toNat (x0 + x4)) + x1 * tq (Int.toNat x4 + aq))))
 then (bif (lim IntKind.i64
 (Int.tdiv (x2 + (S.at' x5 (Int.toNat (x0 + x4)) + x1 * tq (Int.toNat x4 + aq))) (1000000 : Int)))
 then (bif (lim IntKind.i64 (x4 + (1 : Int)))
 then (some (.inl (.h1 (x0) (x1) (Int.tdiv (x2 + (S.at' x5 (Int.toNat (x0 + x4)) + x1 * tq (Int.toNat x4 + aq))) (1000000 : Int)) (x3) (x4 + (1 : Int)) (S.mkl (List.length x5) fun j =>
 bif Nat.beq j (Int.toNat (x0 + x4)) then
 Int.tmod (x2 + (S.at' x5 (Int.toNat (x0 + x4)) + x1 * tq (Int.toNat x4 + aq))) (1000000 : Int)
 else S.at' x5 j))))
 else (none))
 else (none))
 else (none))
 else (none))
 else (none))
 else (none))
 else (none))
 else (none))
 else (none))
 else (none))
 else (bif (lim IntKind.i64 (x0 + (↑nq : Int)))
 then (bif (decide ((0 : Int) ≤ x0 + (↑nq : Int) ∧ x0 + (↑nq : Int) < (↑(List.length x5) : Int)))
 then (bif (decide (Int.toNat (x0 + (↑nq : Int)) < List.length x5))
 then (bif (lim IntKind.i64 (x3 + (1 : Int)))
 then (some (.inl (.h0 (x3 + (1 : Int)) (S.mkl (List.length x5) fun j => bif Nat.beq j (Int.toNat (x0 + (↑nq : Int))) then x2 else S.at' x5 j))))
 else (none))
 else (none))
 else (none))
 else (none)) : Option (St52 ⊕ Rt52)) = some x) : T52_1 cond Kst Kret ap np mp tp aq nq mq tq x0 x1 x2 x3 x4 x5 := by
  unfold T52_1
  exact bif_split h
   (fun c0 h => bif_split h
   (fun c1 h => bif_split h
   (fun c2 h => bif_split h
   (fun c3 h => bif_split h
   (fun c4 h => bif_split h
   (fun c5 h => bif_split h
   (fun c6 h => bif_split h
   (fun c7 h => bif_split h
   (fun c8 h => cond_yes c3 (cond_no rfl (cond_yes c4 (cond_yes c5 (cond_no rfl (bif_split h
   (fun c9 h => bif_split h
   (fun c10 h => stop_at hS _ h (fun n => bif Nat.beq n 2 then 2 else n) rfl rfl rfl ⟨(rn_loose (use_lo rfl) rfl rfl rfl), ⟨(rn_own (use_own rfl) rfl mkl_len), ⟨(rn_int rfl), ⟨(rn_int rfl), ⟨(rn_int rfl), ⟨(rn_loose (use_lo rfl) rfl rfl rfl), ⟨(rn_int rfl), ⟨(rn_int rfl), ⟨(rn_loose (use_lo rfl) rfl rfl rfl), ⟨(rn_int rfl), ⟨(rn_int rfl), trivial⟩⟩⟩⟩⟩⟩⟩⟩⟩⟩⟩ rfl (entl_new (use_own rfl) rfl (Nat.le_of_eq mkl_len) (rcs_int (fun _ hj => col_mkl (fun (t : Int) => t) hj) rcs_nil) (entl_bor (use_lo rfl) rfl rfl (entl_bor (use_lo rfl) rfl rfl entl_nil))))
   (fun c10 h => no_some h))
   (fun c9 h => no_some h)))))))
   (fun c8 h => no_some h))
   (fun c7 h => no_some h))
   (fun c6 h => no_some h))
   (fun c5 h => no_some h))
   (fun c4 h => no_some h))
   (fun c3 h => no_some h))
   (fun c2 h => no_some h))
   (fun c1 h => no_some h))
   (fun c0 h => bif_split h
   (fun c1 h => bif_split h
   (fun c2 h => bif_split h
   (fun c3 h => bif_split h
   (fun c4 h => stop_at hS _ h (fun n => bif Nat.beq n 2 then 2 else n) rfl rfl rfl ⟨(rn_loose (use_lo rfl) rfl rfl rfl), ⟨(rn_own (use_own rfl) rfl mkl_len), ⟨(rn_unk _), ⟨(rn_unk _), ⟨(rn_unk _), ⟨(rn_loose (use_lo rfl) rfl rfl rfl), ⟨(rn_int rfl), ⟨(rn_int rfl), ⟨(rn_unk _), ⟨(rn_unk _), ⟨(rn_unk _), trivial⟩⟩⟩⟩⟩⟩⟩⟩⟩⟩⟩ rfl (entl_new (use_own rfl) rfl (Nat.le_of_eq mkl_len) (rcs_int (fun _ hj => col_mkl (fun (t : Int) => t) hj) rcs_nil) (entl_bor (use_lo rfl) rfl rfl (entl_bor (use_lo rfl) rfl rfl entl_nil))))
   (fun c4 h => no_some h))
   (fun c3 h => no_some h))
   (fun c2 h => no_some h))
   (fun c1 h => no_some h))
theorem a52 (ap np mp : Nat) (tp : Nat → Int) (aq nq mq : Nat) (tq : Nat → Int) {r : Rt52} (h : Goes ((q52 ap np mp tp aq nq mq tq)) ((p52 ap np mp tp aq nq mq tq)) r) : CallR Tryd.prog 52 [.loose ⟨0, 1, ap, 0⟩ np, .loose ⟨1, 1, aq, 0⟩ nq] [[(0, (false, .cols mp [.int .i64 tp])), (1, (false, .cols mq [.int .i64 tq]))]] 2 ((V52 ap np mp tp aq nq mq tq) r) ((fun r => [newL (2 + 1) ((N52 ap np mp tp aq nq mq tq) r) ++ [(0, (false, .cols mp [.int .i64 tp])), (1, (false, .cols mq [.int .i64 tq]))]]) r) 400 ∧ ∃ F, Tryd.prog.funcs[52]? = some F ∧ F.body.isSome = true ∧ (F.name == "runtime.NumGoroutine") = false := by
  refine dec_calls (f := 52) (lo := 2) (hi := 400) (H := [[(0, (false, .cols mp [.int .i64 tp])), (1, (false, .cols mq [.int .i64 tq]))]]) (args := [.loose ⟨0, 1, ap, 0⟩ np, .loose ⟨1, 1, aq, 0⟩ nq]) Tryd.envOk Tryd.mixed xD_ok ((I52 ap np mp tp aq nq mq tq)) ((V52 ap np mp tp aq nq mq tq)) (fun r => [newL (2 + 1) ((N52 ap np mp tp aq nq mq tq) r) ++ [(0, (false, .cols mp [.int .i64 tp])), (1, (false, .cols mq [.int .i64 tq]))]]) (fn := mkFn Tryd.f52) (ts := [1, 5, 6, 7, 8, 25, 26, 27, 32, 33, 34]) (n := 400) rfl (by decide) (by simp) (names_of rfl) ?_ ?_ ?_ h
  · intro s; cases s <;> exact ⟨hd_ok _ _, by simp [I52], names_of rfl, Nat.le_of_ble_eq_true rfl⟩
  · intro Kst Kret x hS hR h
    exact Holds.eq (te52 cond Kst Kret ap np mp tp aq nq mq tq) (be52 ap np mp tp aq nq mq tq Kst Kret x hS hR h)
  · intro Kst Kret x hS hR s h
    cases s with
    | h0 x0 x1 => exact Holds.eq (t52_0 cond Kst Kret ap np mp tp aq nq mq tq x0 x1) (b52_0 ap np mp tp aq nq mq tq Kst Kret x hS hR x0 x1 h)
    | h1 x0 x1 x2 x3 x4 x5 => exact Holds.eq (t52_1 cond Kst Kret ap np mp tp aq nq mq tq x0 x1 x2 x3 x4 x5) (b52_1 ap np mp tp aq nq mq tq Kst Kret x hS hR x0 x1 x2 x3 x4 x5 h)
noncomputable def k52  : Con := ⟨52, [.one (.list [.int .i64]), .one (.list [.int .i64])], fun (x : (Nat × Nat × Nat × (Nat → Int) × Unit) × (Nat × Nat × Nat × (Nat → Int) × Unit) × Unit) => (fun (ap np mp : Nat) (tp : Nat → Int) (aq nq mq : Nat) (tq : Nat → Int) => decide ((ap + np ≤ mp ∧ aq + nq ≤ mq) ∧ (np ≤ 1000 ∧ nq ≤ 1000) ∧ S.okG np (fun j => tp (j + ap)) = true ∧ S.okG nq (fun j => tq (j + aq)) = true)) x.1.1 x.1.2.1 x.1.2.2.1 x.1.2.2.2.1 x.2.1.1 x.2.1.2.1 x.2.1.2.2.1 x.2.1.2.2.2.1, fun (x : (Nat × Nat × Nat × (Nat → Int) × Unit) × (Nat × Nat × Nat × (Nat → Int) × Unit) × Unit) => (fun (ap np mp : Nat) (tp : Nat → Int) (aq nq mq : Nat) (tq : Nat → Int) => (V52 ap np mp tp aq nq mq tq) (S.grp ((S.val np (fun j => tp (j + ap))) * (S.val nq (fun j => tq (j + aq)))))) x.1.1 x.1.2.1 x.1.2.2.1 x.1.2.2.2.1 x.2.1.1 x.2.1.2.1 x.2.1.2.2.1 x.2.1.2.2.2.1, fun (x : (Nat × Nat × Nat × (Nat → Int) × Unit) × (Nat × Nat × Nat × (Nat → Int) × Unit) × Unit) => (fun (ap np mp : Nat) (tp : Nat → Int) (aq nq mq : Nat) (tq : Nat → Int) => (N52 ap np mp tp aq nq mq tq) (S.grp ((S.val np (fun j => tp (j + ap))) * (S.val nq (fun j => tq (j + aq)))))) x.1.1 x.1.2.1 x.1.2.2.1 x.1.2.2.2.1 x.2.1.1 x.2.1.2.1 x.2.1.2.2.1 x.2.1.2.2.2.1, fun _ _ => .dead⟩
theorem s52i (ap np mp : Nat) (tp : Nat → Int) (aq nq mq : Nat) (tq : Nat → Int) (hp : (ap + np ≤ mp ∧ aq + nq ≤ mq) ∧ (np ≤ 1000 ∧ nq ≤ 1000) ∧ S.okG np (fun j => tp (j + ap)) = true ∧ S.okG nq (fun j => tq (j + aq)) = true) (i : Nat) (hi : i < np) : ∀ (k a : Nat) (c : Int) (R : List Int), a + k = nq → R.length = np + nq → (∀ j, j < np + nq → 0 ≤ S.at' R j ∧ S.at' R j < 1000000) → (∀ j, i + nq ≤ j → j < np + nq → S.at' R j = 0) → (0 ≤ c ∧ c < 1000000) →
    ∃ R' : List Int, R'.length = np + nq ∧ (∀ j, j < np + nq → 0 ≤ S.at' R' j ∧ S.at' R' j < 1000000) ∧ (∀ j, i + 1 + nq ≤ j → j < np + nq → S.at' R' j = 0) ∧ (∀ j, j < i + a → S.at' R' j = S.at' R j) ∧ S.valF (S.at' R') (i + a) (np + nq - (i + a)) = S.valF (S.at' R) (i + a) (np + nq - (i + a)) + c + tp (i + ap) * S.valF (fun j => tq (j + aq)) a k ∧
      ∀ res : List Int, (Comes (q52 ap np mp tp aq nq mq tq) (.h0 ((i : Int) + 1) R') res → Comes (q52 ap np mp tp aq nq mq tq) (.h1 (i : Int) (tp (i + ap)) c (i : Int) (a : Int) R) res) := by
  obtain ⟨⟨hp1, hp2⟩, ⟨hp3, hp4⟩, g1, g2⟩ := hp
  have d1 := (okG_iff.mp g1).1 i hi
  have d2 := (okG_iff.mp g2).1
  (try dsimp only at d1)
  intro k
  induction k with
  | zero =>
    intro a c R ha hR hd hz hc
    obtain rfl : a = nq := by omega
    have z0 := hz (i + a) (Nat.le_refl _) (by omega)
    refine ⟨S.mkl (np + a) (fun j => bif Nat.beq j (i + a) then c else S.at' R j), mkl_len, upd_dig hR hd hc, fun j h1 h2 => ?_, fun j h1 => ?_, ?_, fun res hC => ?_⟩
    · rw [upd_at h2, if_neg (by omega)]; exact hz j (by omega) h2
    · rw [upd_at (by omega), if_neg (by omega)]
    · rw [show np + a - (i + a) = (np + a - (i + a + 1)) + 1 by omega]
      simp only [S.valF]
      rw [upd_at (by omega), if_pos rfl, z0, valF_congr (u := S.at' R) fun j h1 h2 => by rw [upd_at (by omega), if_neg (by omega)]]
      omega
    · rw [← hR] at hC
      have e1 : ((i : Int) + a).toNat = i + a := by omega
      apply Comes.of
      show Goes _ _ _
      (first | rw [q52] | unfold q52)
      repeat' first
        | with_reducible refine goes_if (fun h => ?_) (fun h => ?_) <;> (try simp only [SH, e1] at h)
        | exact goes_none.mpr (by omega)
      all_goals first | (exfalso; omega) | (rw [e1]; exact hC)
  | succ k ih =>
    intro a c R ha hR hd hz hc
    have hq := d2 a (by omega)
    (try dsimp only at hq)
    have hm := mul_dig d1 hq
    have hr := hd (i + a) (by omega)
    have ms := md_sum (x := c + (S.at' R (i + a) + tp (i + ap) * tq (a + aq))) (by omega)
    generalize hD : Int.tmod (c + (S.at' R (i + a) + tp (i + ap) * tq (a + aq))) 1000000 = dg at ms
    generalize hC : Int.tdiv (c + (S.at' R (i + a) + tp (i + ap) * tq (a + aq))) 1000000 = cy at ms
    obtain ⟨R', r1, r2, r3, r4, r5, r6⟩ := ih (a + 1) cy (S.mkl (np + nq) fun j => bif Nat.beq j (i + a) then dg else S.at' R j) (by omega) mkl_len (upd_dig hR hd (by omega)) (fun j h1 h2 => by rw [upd_at h2, if_neg (by omega)]; exact hz j h1 h2) (by omega)
    refine ⟨R', r1, r2, r3, fun j h1 => ?_, ?_, fun res hX => ?_⟩
    · rw [r4 j (by omega), upd_at (by omega), if_neg (by omega)]
    · rw [show np + nq - (i + a) = (np + nq - (i + (a + 1))) + 1 by omega]
      have e1 := r4 (i + a) (by omega)
      rw [upd_at (by omega), if_pos rfl] at e1
      have r5' : S.valF (S.at' (S.mkl (np + nq) fun j => bif Nat.beq j (i + a) then dg else S.at' R j)) (i + (a + 1)) (np + nq - (i + (a + 1))) = S.valF (S.at' R) (i + (a + 1)) (np + nq - (i + (a + 1))) := valF_congr fun j h1 h2 => by rw [upd_at (by omega), if_neg (by omega)]
      rw [r5'] at r5
      simp only [S.valF]
      have ed : ∀ x : Int, tp (i + ap) * (tq (a + aq) + 1000000 * x) = tp (i + ap) * tq (a + aq) + 1000000 * (tp (i + ap) * x) := fun x => by rw [Int.mul_add, Int.mul_left_comm]
      rw [show i + a + 1 = i + (a + 1) by omega, r5, e1, ed]
      generalize tp (i + ap) * S.valF _ _ _ = w1 at *
      generalize S.valF _ _ _ = w2 at *
      (try dsimp only)
      omega
    · have r6 := r6 res hX
      rw [← hR] at r6
      have e1 : ((i : Int) + a).toNat = i + a := by omega
      clear ih r5 hX
      apply Comes.of
      show Goes _ _ _
      rw [q52]
      simp only [e1, Int.toNat_natCast, hD, hC]
      repeat' first
        | with_reducible refine goes_if (fun h => ?_) (fun h => ?_) <;> (try simp only [SH] at h)
        | exact goes_none.mpr (by omega)
      all_goals first | (exfalso; omega) | exact r6
theorem s52' (ap np mp : Nat) (tp : Nat → Int) (aq nq mq : Nat) (tq : Nat → Int) (hp : (ap + np ≤ mp ∧ aq + nq ≤ mq) ∧ (np ≤ 1000 ∧ nq ≤ 1000) ∧ S.okG np (fun j => tp (j + ap)) = true ∧ S.okG nq (fun j => tq (j + aq)) = true) : ∀ (k i : Nat) (R : List Int), i + k = np → R.length = np + nq → (∀ j, j < np + nq → 0 ≤ S.at' R j ∧ S.at' R j < 1000000) → (∀ j, i + nq ≤ j → j < np + nq → S.at' R j = 0) →
    ∃ R' : List Int, R'.length = np + nq ∧ (∀ j, j < np + nq → 0 ≤ S.at' R' j ∧ S.at' R' j < 1000000) ∧ (∀ j, j < i → S.at' R' j = S.at' R j) ∧ S.valF (S.at' R') (i) (np + nq - (i)) = S.valF (S.at' R) (i) (np + nq - (i)) + S.valF (fun j => tp (j + ap)) i k * (S.val nq (fun j => tq (j + aq))) ∧ Comes (q52 ap np mp tp aq nq mq tq) (.h0 (i : Int) R) (S.trim R') := by
  have hp' := hp
  obtain ⟨⟨hp1, hp2⟩, ⟨hp3, hp4⟩, g1, g2⟩ := hp
  intro k
  induction k with
  | zero =>
    intro i R hi hR hd hz
    refine ⟨R, hR, hd, fun j _ => rfl, by simp only [S.valF]; rw [Int.zero_mul, Int.add_zero], ?_⟩
    rw [← trim_at]
    apply Comes.of
    show Goes _ _ _
    (first | rw [q52] | unfold q52)
    repeat' first
      | with_reducible refine goes_if (fun h => ?_) (fun h => ?_) <;> (try simp only [SH] at h)
      | exact goes_none.mpr (by omega)
    all_goals first | (exfalso; omega) | exact goes_inr.mpr rfl
  | succ k ih =>
    intro i R hi hR hd hz
    obtain ⟨R1, a1, a2, a3, a4, a5, a6⟩ := s52i ap np mp tp aq nq mq tq hp' i (by omega) nq 0 0 R (by omega) hR hd hz (by omega)
    obtain ⟨R', b1, b2, b3, b4, b5⟩ := ih (i + 1) R1 (by omega) a1 a2 (fun j h1 h2 => a3 j (by omega) h2)
    have vq : S.valF (fun j => tq (j + aq)) 0 nq = (S.val nq (fun j => tq (j + aq))) := rfl
    rw [vq, Nat.add_zero, Int.add_zero] at a5
    refine ⟨R', b1, b2, fun j hj => by rw [b3 j (by omega), a4 j (by omega)], ?_, ?_⟩
    · have e1 := b3 i (by omega)
      rw [show np + nq - i = (np + nq - (i + 1)) + 1 by omega] at a5 ⊢
      simp only [S.valF] at a5 ⊢
      rw [e1, b4, Int.add_mul, Int.mul_assoc]
      (try dsimp only)
      generalize tp (i + ap) * (S.val nq (fun j => tq (j + aq))) = w1 at *
      generalize S.valF (fun j => tp (j + ap)) (i + 1) k * (S.val nq (fun j => tq (j + aq))) = w2 at *
      generalize S.valF _ _ _ = w3 at *
      generalize S.valF _ _ _ = w4 at *
      omega
    · have a6 := a6 _ b5
      apply Comes.of
      show Goes _ _ _
      (first | rw [q52] | unfold q52)
      repeat' first
        | with_reducible refine goes_if (fun h => ?_) (fun h => ?_) <;> (try simp only [SH] at h)
        | exact goes_none.mpr (by omega)
      all_goals first | (exfalso; omega) | exact a6
theorem s52 (ap np mp : Nat) (tp : Nat → Int) (aq nq mq : Nat) (tq : Nat → Int) (hp : (ap + np ≤ mp ∧ aq + nq ≤ mq) ∧ (np ≤ 1000 ∧ nq ≤ 1000) ∧ S.okG np (fun j => tp (j + ap)) = true ∧ S.okG nq (fun j => tq (j + aq)) = true) : Goes ((q52 ap np mp tp aq nq mq tq)) ((p52 ap np mp tp aq nq mq tq)) (S.grp ((S.val np (fun j => tp (j + ap))) * (S.val nq (fun j => tq (j + aq))))) := by
  have hp' := hp
  obtain ⟨⟨hp1, hp2⟩, ⟨hp3, hp4⟩, g1, g2⟩ := hp
  by_cases h1 : np = 0
  · subst h1
    have e' : S.val 0 (fun j => tp (j + ap)) = 0 := rfl
    rw [e', Int.zero_mul, grp_zero]
    show Goes _ _ _
    unfold p52
    repeat' first
      | with_reducible refine goes_if (fun h => ?_) (fun h => ?_) <;> (try simp only [SH] at h)
      | exact goes_none.mpr (by omega)
    all_goals first | (exfalso; omega) | (exfalso; simp at *; done) | exact goes_inr.mpr rfl
  · by_cases h2 : nq = 0
    · subst h2
      have e' : S.val 0 (fun j => tq (j + aq)) = 0 := rfl
      rw [e', Int.mul_zero, grp_zero]
      show Goes _ _ _
      unfold p52
      repeat' first
        | with_reducible refine goes_if (fun h => ?_) (fun h => ?_) <;> (try simp only [SH] at h)
        | exact goes_none.mpr (by omega)
      all_goals first | (exfalso; omega) | (exfalso; simp at *; done) | exact goes_inr.mpr rfl
    · have z : ∀ j, j < np + nq → S.at' (S.mkl (np + nq) fun _ => (0 : Int)) j = 0 := fun j hj => at_mkl hj
      obtain ⟨R', r1, r2, r3, r4, r5⟩ := s52' ap np mp tp aq nq mq tq hp' np 0 (S.mkl (np + nq) fun _ => 0) (by omega) mkl_len (fun j hj => by rw [z j hj]; omega) (fun j _ hj => z j hj)
      have z2 : S.valF (S.at' (S.mkl (np + nq) fun _ => (0 : Int))) 0 (np + nq - 0) = 0 := by rw [valF_congr (u := fun _ => 0) fun j _ hj => z j (by omega)]; exact valF_zero
      have vp : S.valF (fun j => tp (j + ap)) 0 np = (S.val np (fun j => tp (j + ap))) := rfl
      rw [z2, vp, Int.zero_add, Nat.sub_zero] at r4
      have e : S.trim R' = S.grp ((S.val np (fun j => tp (j + ap))) * (S.val nq (fun j => tq (j + aq)))) := by
        rw [trim_grp fun x hx => by obtain ⟨j, hj, rfl⟩ := List.getElem_of_mem hx; have := r2 j (by omega); rw [at_lt hj] at this; exact this]
        rw [← val_at, r1]
        exact congrArg S.grp r4
      rw [e] at r5
      have en : ((np : Int) + nq).toNat = np + nq := by omega
      show Goes _ _ _
      unfold p52
      repeat' first
        | with_reducible refine goes_if (fun h => ?_) (fun h => ?_) <;> (try simp only [SH, en] at h)
        | exact goes_none.mpr (by omega)
      all_goals first | (exfalso; omega) | (exfalso; simp at *; omega) | (rw [en]; exact r5)
theorem k52_ok  : k52.ok Tryd.prog := by
  intro x hx
  obtain ⟨⟨ap, np, mp, tp, _⟩, ⟨aq, nq, mq, tq, _⟩, _⟩ := x
  obtain ⟨h1, h2⟩ := a52 ap np mp tp aq nq mq tq (s52 ap np mp tp aq nq mq tq (of_dec hx rfl))
  exact ⟨⟨400, (by decide : 2 + 1 + 1 ≤ 400), h1⟩, h2⟩
noncomputable def xM (test : Bool → Prop → Prop → Prop) : Ext := consX test [k69, k65, k69v, k65v, k60, k44, k55, k45, k56, k46, k18, k48, k52]
theorem xM_ok  : ExtOk Tryd.prog (xM cond) := consX_ok ⟨k69_ok, k65_ok, k69v_ok, k65v_ok, k60_ok, k44_ok, k55_ok, k45_ok, k56_ok, k46_ok, k18_ok, k48_ok, k52_ok, trivial⟩
namespace S
def mulI (n1 : Bool) (n : Nat) (t : Nat → Int) (n2 : Bool) (m : Nat) (u : Nat → Int) : Bool × Int × List Int := if okI n1 n t = true ∧ okI n2 m u = true then fitI (sv n1 (val n t) * sv n2 (val m u)) else (false, 1, [])
end S
theorem sv_mul  {n1 n2 : Bool} {v w : Int} : S.sv n1 v * S.sv n2 w = S.sv (n1 != n2) (v * w) := by
  cases n1 <;> cases n2 <;> simp [S.sv, Int.neg_mul, Int.mul_neg]
theorem pw_add  : ∀ {a b : Nat}, S.pw (a + b) = S.pw a * S.pw b
  | a, 0 => by show S.pw a = S.pw a * 1; rw [Int.mul_one]
  | a, b + 1 => by
    show 1000000 * S.pw (a + b) = S.pw a * (1000000 * S.pw b)
    rw [pw_add, Int.mul_left_comm]
theorem mul_lt  {a b : Nat} {v w : Int} (hv : 0 ≤ v ∧ v < S.pw a) (hw : 0 ≤ w ∧ w < S.pw b) : 0 ≤ v * w ∧ v * w < S.pw (a + b) := by
  refine ⟨Int.mul_nonneg hv.1 hw.1, ?_⟩
  rw [pw_add]
  have h1 : v * w ≤ v * S.pw b := Int.mul_le_mul_of_nonneg_left (by omega) hv.1
  have h2 : v * S.pw b < S.pw a * S.pw b := Int.mul_lt_mul_of_pos_right hv.2 pw_pos
  omega
theorem beq_zero  {v : Int} : ((((S.grp v).length : Nat) : Int) == 0) = decide (v ≤ 0) := by
  rw [Bool.eq_iff_iff, beq_iff_eq, decide_eq_true_eq]
  have := len_zero (v := v)
  omega
abbrev St26  := Empty
abbrev Rt26  := Bool × Int × List Int
noncomputable def V26 (n1 : Bool) (ap np mp : Nat) (tp : Nat → Int) (n2 : Bool) (aq nq mq : Nat) (tq : Nat → Int) (r : Rt26) : PV := PV.tup
 [PV.agg [PV.bool r.1, PV.own (3) (1) (List.length r.2.2)],
 PV.int IntKind.i64 r.2.1]
noncomputable def N26 (n1 : Bool) (ap np mp : Nat) (tp : Nat → Int) (n2 : Bool) (aq nq mq : Nat) (tq : Nat → Int) (r : Rt26) : List Blk := [Blk.cols (List.length r.2.2) [Col.int IntKind.i64 fun j => S.at' r.2.2 j]]
noncomputable def I26 (n1 : Bool) (ap np mp : Nat) (tp : Nat → Int) (n2 : Bool) (aq nq mq : Nat) (tq : Nat → Int) : St26 → Hd := fun s => s.elim
noncomputable def q26 (n1 : Bool) (ap np mp : Nat) (tp : Nat → Int) (n2 : Bool) (aq nq mq : Nat) (tq : Nat → Int) : St26 → Option (St26 ⊕ Rt26) := fun s => s.elim
noncomputable def p26 (n1 : Bool) (ap np mp : Nat) (tp : Nat → Int) (n2 : Bool) (aq nq mq : Nat) (tq : Nat → Int) : Option (St26 ⊕ Rt26) := bif (decide (ap + np ≤ mp ∧ np ≤ 1000000))
 then (bif (S.okI n1 np fun j => tp (j + ap))
 then (bif (decide (aq + nq ≤ mq ∧ nq ≤ 1000000))
 then (bif (S.okI n2 nq fun j => tq (j + aq))
 then (bif (n1)
 then (bif (n2)
 then (bif (decide
 ((ap + np ≤ mp ∧ aq + nq ≤ mq) ∧
 (np ≤ 1000 ∧ nq ≤ 1000) ∧
 (S.okG np fun j => tp (j + ap)) = true ∧
 (S.okG nq fun j => tq (j + aq)) = true))
 then (bif ((↑(List.length
 (S.grp ((S.val np fun j => tp (j + ap)) * S.val nq fun j => tq (j + aq)))) :
 Int) ==
 (0 : Int))
 then (some (.inr (false, (0 : Int), [])))
 else (bif (decide
 ((↑(List.length
 (S.grp ((S.val np fun j => tp (j + ap)) * S.val nq fun j => tq (j + aq)))) :
 Int) >
 (80 : Int)))
 then (some (.inr (false, (3 : Int), [])))
 else (some (.inr (false, (0 : Int), S.grp ((S.val np fun j => tp (j + ap)) * S.val nq fun j => tq (j + aq)))))))
 else (none))
 else (bif (decide
 ((ap + np ≤ mp ∧ aq + nq ≤ mq) ∧
 (np ≤ 1000 ∧ nq ≤ 1000) ∧
 (S.okG np fun j => tp (j + ap)) = true ∧
 (S.okG nq fun j => tq (j + aq)) = true))
 then (bif ((↑(List.length
 (S.grp ((S.val np fun j => tp (j + ap)) * S.val nq fun j => tq (j + aq)))) :
 Int) ==
 (0 : Int))
 then (some (.inr (false, (0 : Int), [])))
 else (bif (decide
 ((↑(List.length
 (S.grp ((S.val np fun j => tp (j + ap)) * S.val nq fun j => tq (j + aq)))) :
 Int) >
 (80 : Int)))
 then (some (.inr (false, (3 : Int), [])))
 else (some (.inr (true, (0 : Int), S.grp ((S.val np fun j => tp (j + ap)) * S.val nq fun j => tq (j + aq)))))))
 else (none)))
 else (bif (n2)
 then (bif (decide
 ((ap + np ≤ mp ∧ aq + nq ≤ mq) ∧
 (np ≤ 1000 ∧ nq ≤ 1000) ∧
 (S.okG np fun j => tp (j + ap)) = true ∧
 (S.okG nq fun j => tq (j + aq)) = true))
 then (bif ((↑(List.length
 (S.grp ((S.val np fun j => tp (j + ap)) * S.val nq fun j => tq (j + aq)))) :
 Int) ==
 (0 : Int))
 then (some (.inr (false, (0 : Int), [])))
 else (bif (decide
 ((↑(List.length
 (S.grp ((S.val np fun j => tp (j + ap)) * S.val nq fun j => tq (j + aq)))) :
 Int) >
 (80 : Int)))
 then (some (.inr (false, (3 : Int), [])))
 else (some (.inr (true, (0 : Int), S.grp ((S.val np fun j => tp (j + ap)) * S.val nq fun j => tq (j + aq)))))))
 else (none))
 else (bif (decide
 ((ap + np ≤ mp ∧ aq + nq ≤ mq) ∧
 (np ≤ 1000 ∧ nq ≤ 1000) ∧
 (S.okG np fun j => tp (j + ap)) = true ∧
 (S.okG nq fun j => tq (j + aq)) = true))
 then (bif ((↑(List.length
 (S.grp ((S.val np fun j => tp (j + ap)) * S.val nq fun j => tq (j + aq)))) :
 Int) ==
 (0 : Int))
 then (some (.inr (false, (0 : Int), [])))
 else (bif (decide
 ((↑(List.length
 (S.grp ((S.val np fun j => tp (j + ap)) * S.val nq fun j => tq (j + aq)))) :
 Int) >
 (80 : Int)))
 then (some (.inr (false, (3 : Int), [])))
 else (some (.inr (false, (0 : Int), S.grp ((S.val np fun j => tp (j + ap)) * S.val nq fun j => tq (j + aq)))))))
 else (none))))
 else (some (.inr (false, (1 : Int), []))))
 else (none))
 else (some (.inr (false, (1 : Int), []))))
 else (none)
noncomputable def Te26 (test : Bool → Prop → Prop → Prop) (Kst : KS) (Kret : KR) (n1 : Bool) (ap np mp : Nat) (tp : Nat → Int) (n2 : Bool) (aq nq mq : Nat) (tq : Nat → Int) : Prop :=
  test (decide (ap + np ≤ mp ∧ np ≤ 1000000))
 (test (S.okI n1 np fun j => tp (j + ap))
 (test (decide (aq + nq ≤ mq ∧ nq ≤ 1000000))
 (test (S.okI n2 nq fun j => tq (j + aq))
 (test (n1)
 (test (n2)
 (test (decide
 ((ap + np ≤ mp ∧ aq + nq ≤ mq) ∧
 (np ≤ 1000 ∧ nq ≤ 1000) ∧
 (S.okG np fun j => tp (j + ap)) = true ∧
 (S.okG nq fun j => tq (j + aq)) = true))
 (test ((↑(List.length
 (S.grp ((S.val np fun j => tp (j + ap)) * S.val nq fun j => tq (j + aq)))) :
 Int) ==
 (0 : Int))
 (test (false)
 (Kret (PV.tup [PV.agg [PV.tf false, PV.nils], PV.int IntKind.i64 (3 : Int)]) ([[(1, false, Blk.cols mq [Col.int IntKind.i64 tq]),
 (0, false, Blk.cols mp [Col.int IntKind.i64 tp])]]) (12))
 (Kret (PV.tup [PV.agg [PV.tf false, PV.nils], PV.int IntKind.i64 (0 : Int)]) ([[(1, false, Blk.cols mq [Col.int IntKind.i64 tq]),
 (0, false, Blk.cols mp [Col.int IntKind.i64 tp])]]) (12)))
 (test (decide
 ((↑(List.length
 (S.grp ((S.val np fun j => tp (j + ap)) * S.val nq fun j => tq (j + aq)))) :
 Int) >
 (80 : Int)))
 (Kret (PV.tup [PV.agg [PV.tf false, PV.nils], PV.int IntKind.i64 (3 : Int)]) ([[(1, false, Blk.cols mq [Col.int IntKind.i64 tq]),
 (0, false, Blk.cols mp [Col.int IntKind.i64 tp])]]) (12))
 (Kret (PV.tup
 [PV.agg
 [PV.tf false,
 PV.own (8) (1)
 (List.length
 (S.grp
 ((S.val np fun j => tp (j + ap)) * S.val nq fun j => tq (j + aq))))],
 PV.int IntKind.i64 (0 : Int)]) ([[(1, false, Blk.cols mq [Col.int IntKind.i64 tq]),
 (0, false, Blk.cols mp [Col.int IntKind.i64 tp]),
 (8, true,
 Blk.cols
 (List.length
 (S.grp ((S.val np fun j => tp (j + ap)) * S.val nq fun j => tq (j + aq))))
 [Col.int IntKind.i64 fun j =>
 S.at'
 (S.grp
 ((S.val np fun j => tp (j + ap)) * S.val nq fun j => tq (j + aq)))
 j])]]) (12))))
 (False))
 (test (decide
 ((ap + np ≤ mp ∧ aq + nq ≤ mq) ∧
 (np ≤ 1000 ∧ nq ≤ 1000) ∧
 (S.okG np fun j => tp (j + ap)) = true ∧
 (S.okG nq fun j => tq (j + aq)) = true))
 (test ((↑(List.length
 (S.grp ((S.val np fun j => tp (j + ap)) * S.val nq fun j => tq (j + aq)))) :
 Int) ==
 (0 : Int))
 (test (false)
 (Kret (PV.tup [PV.agg [PV.tf false, PV.nils], PV.int IntKind.i64 (3 : Int)]) ([[(1, false, Blk.cols mq [Col.int IntKind.i64 tq]),
 (0, false, Blk.cols mp [Col.int IntKind.i64 tp])]]) (12))
 (Kret (PV.tup [PV.agg [PV.tf false, PV.nils], PV.int IntKind.i64 (0 : Int)]) ([[(1, false, Blk.cols mq [Col.int IntKind.i64 tq]),
 (0, false, Blk.cols mp [Col.int IntKind.i64 tp])]]) (12)))
 (test (decide
 ((↑(List.length
 (S.grp ((S.val np fun j => tp (j + ap)) * S.val nq fun j => tq (j + aq)))) :
 Int) >
 (80 : Int)))
 (Kret (PV.tup [PV.agg [PV.tf false, PV.nils], PV.int IntKind.i64 (3 : Int)]) ([[(1, false, Blk.cols mq [Col.int IntKind.i64 tq]),
 (0, false, Blk.cols mp [Col.int IntKind.i64 tp])]]) (12))
 (Kret (PV.tup
 [PV.agg
 [PV.tf true,
 PV.own (8) (1)
 (List.length
 (S.grp
 ((S.val np fun j => tp (j + ap)) * S.val nq fun j => tq (j + aq))))],
 PV.int IntKind.i64 (0 : Int)]) ([[(1, false, Blk.cols mq [Col.int IntKind.i64 tq]),
 (0, false, Blk.cols mp [Col.int IntKind.i64 tp]),
 (8, true,
 Blk.cols
 (List.length
 (S.grp ((S.val np fun j => tp (j + ap)) * S.val nq fun j => tq (j + aq))))
 [Col.int IntKind.i64 fun j =>
 S.at'
 (S.grp
 ((S.val np fun j => tp (j + ap)) * S.val nq fun j => tq (j + aq)))
 j])]]) (12))))
 (False)))
 (test (n2)
 (test (decide
 ((ap + np ≤ mp ∧ aq + nq ≤ mq) ∧
 (np ≤ 1000 ∧ nq ≤ 1000) ∧
 (S.okG np fun j => tp (j + ap)) = true ∧
 (S.okG nq fun j => tq (j + aq)) = true))
 (test ((↑(List.length
 (S.grp ((S.val np fun j => tp (j + ap)) * S.val nq fun j => tq (j + aq)))) :
 Int) ==
 (0 : Int))
 (test (false)
 (Kret (PV.tup [PV.agg [PV.tf false, PV.nils], PV.int IntKind.i64 (3 : Int)]) ([[(1, false, Blk.cols mq [Col.int IntKind.i64 tq]),
 (0, false, Blk.cols mp [Col.int IntKind.i64 tp])]]) (12))
 (Kret (PV.tup [PV.agg [PV.tf false, PV.nils], PV.int IntKind.i64 (0 : Int)]) ([[(1, false, Blk.cols mq [Col.int IntKind.i64 tq]),
 (0, false, Blk.cols mp [Col.int IntKind.i64 tp])]]) (12)))
 (test (decide
 ((↑(List.length
 (S.grp ((S.val np fun j => tp (j + ap)) * S.val nq fun j => tq (j + aq)))) :
 Int) >
 (80 : Int)))
 (Kret (PV.tup [PV.agg [PV.tf false, PV.nils], PV.int IntKind.i64 (3 : Int)]) ([[(1, false, Blk.cols mq [Col.int IntKind.i64 tq]),
 (0, false, Blk.cols mp [Col.int IntKind.i64 tp])]]) (12))
 (Kret (PV.tup
 [PV.agg
 [PV.tf true,
 PV.own (8) (1)
 (List.length
 (S.grp
 ((S.val np fun j => tp (j + ap)) * S.val nq fun j => tq (j + aq))))],
 PV.int IntKind.i64 (0 : Int)]) ([[(1, false, Blk.cols mq [Col.int IntKind.i64 tq]),
 (0, false, Blk.cols mp [Col.int IntKind.i64 tp]),
 (8, true,
 Blk.cols
 (List.length
 (S.grp ((S.val np fun j => tp (j + ap)) * S.val nq fun j => tq (j + aq))))
 [Col.int IntKind.i64 fun j =>
 S.at'
 (S.grp
 ((S.val np fun j => tp (j + ap)) * S.val nq fun j => tq (j + aq)))
 j])]]) (12))))
 (False))
 (test (decide
 ((ap + np ≤ mp ∧ aq + nq ≤ mq) ∧
 (np ≤ 1000 ∧ nq ≤ 1000) ∧
 (S.okG np fun j => tp (j + ap)) = true ∧
 (S.okG nq fun j => tq (j + aq)) = true))
 (test ((↑(List.length
 (S.grp ((S.val np fun j => tp (j + ap)) * S.val nq fun j => tq (j + aq)))) :
 Int) ==
 (0 : Int))
 (test (false)
 (Kret (PV.tup [PV.agg [PV.tf false, PV.nils], PV.int IntKind.i64 (3 : Int)]) ([[(1, false, Blk.cols mq [Col.int IntKind.i64 tq]),
 (0, false, Blk.cols mp [Col.int IntKind.i64 tp])]]) (12))
 (Kret (PV.tup [PV.agg [PV.tf false, PV.nils], PV.int IntKind.i64 (0 : Int)]) ([[(1, false, Blk.cols mq [Col.int IntKind.i64 tq]),
 (0, false, Blk.cols mp [Col.int IntKind.i64 tp])]]) (12)))
 (test (decide
 ((↑(List.length
 (S.grp ((S.val np fun j => tp (j + ap)) * S.val nq fun j => tq (j + aq)))) :
 Int) >
 (80 : Int)))
 (Kret (PV.tup [PV.agg [PV.tf false, PV.nils], PV.int IntKind.i64 (3 : Int)]) ([[(1, false, Blk.cols mq [Col.int IntKind.i64 tq]),
 (0, false, Blk.cols mp [Col.int IntKind.i64 tp])]]) (12))
 (Kret (PV.tup
 [PV.agg
 [PV.tf false,
 PV.own (8) (1)
 (List.length
 (S.grp
 ((S.val np fun j => tp (j + ap)) * S.val nq fun j => tq (j + aq))))],
 PV.int IntKind.i64 (0 : Int)]) ([[(1, false, Blk.cols mq [Col.int IntKind.i64 tq]),
 (0, false, Blk.cols mp [Col.int IntKind.i64 tp]),
 (8, true,
 Blk.cols
 (List.length
 (S.grp ((S.val np fun j => tp (j + ap)) * S.val nq fun j => tq (j + aq))))
 [Col.int IntKind.i64 fun j =>
 S.at'
 (S.grp
 ((S.val np fun j => tp (j + ap)) * S.val nq fun j => tq (j + aq)))
 j])]]) (12))))
 (False))))
 (Kret (PV.tup [PV.agg [PV.tf false, PV.nils], PV.int IntKind.i64 (1 : Int)]) ([[(1, false, Blk.cols mq [Col.int IntKind.i64 tq]),
 (0, false, Blk.cols mp [Col.int IntKind.i64 tp])]]) (7)))
 (False))
 (Kret (PV.tup [PV.agg [PV.tf false, PV.nils], PV.int IntKind.i64 (1 : Int)]) ([[(1, false, Blk.cols mq [Col.int IntKind.i64 tq]),
 (0, false, Blk.cols mp [Col.int IntKind.i64 tp])]]) (6)))
 (False)
theorem te26 (test : Bool → Prop → Prop → Prop) (Kst : KS) (Kret : KR) (n1 : Bool) (ap np mp : Nat) (tp : Nat → Int) (n2 : Bool) (aq nq mq : Nat) (tq : Nat → Int) : run test Tryd.env true (xM test) true 400 ⟨26, [.cd (mkFn Tryd.f26).body], argT 0 [.agg [.bool n1, .loose ⟨0, 1, ap, 0⟩ np], .agg [.bool n2, .loose ⟨1, 1, aq, 0⟩ nq]], [[], [(0, (false, .cols mp [.int .i64 tp])), (1, (false, .cols mq [.int .i64 tq]))]], 2⟩ (proj 2 [] Kst Kret) =
  Te26 test Kst Kret n1 ap np mp tp n2 aq nq mq tq := by kernel_rfl
attribute [local irreducible] Int.subNatNat in
theorem be26 (n1 : Bool) (ap np mp : Nat) (tp : Nat → Int) (n2 : Bool) (aq nq mq : Nat) (tq : Nat → Int) (Kst : KS) (Kret : KR) (x : St26 ⊕ Rt26) (hS : HS 2 400 ((I26 n1 ap np mp tp n2 aq nq mq tq)) Kst x) (hR : HR 2 400 ((V26 n1 ap np mp tp n2 aq nq mq tq)) (fun r => [newL (2 + 1) ((N26 n1 ap np mp tp n2 aq nq mq tq) r) ++ [(0, (false, .cols mp [.int .i64 tp])), (1, (false, .cols mq [.int .i64 tq]))]]) Kret x) (h : p26 n1 ap np mp tp n2 aq nq mq tq = some x) : Te26 cond Kst Kret n1 ap np mp tp n2 aq nq mq tq := by
  unfold Te26
  unfold p26 at h
  refine bif_split h
   (fun c0 h => bif_split h
   (fun c1 h => bif_split h
   (fun c2 h => bif_split h
   (fun c3 h => bif_split h
   (fun c4 h => bif_split h
   (fun c5 h => bif_split h
   (fun c6 h => bif_split h
   (fun c7 h => cond_no rfl (ret_at hR _ h (fun n => bif Nat.beq n 3 then 399 else n) rfl rfl rfl (rn_tup ⟨(rn_agg ⟨(rn_bool_tf rfl), (rn_own_nils rfl), trivial⟩), (rn_int rfl), trivial⟩) rfl (entl_fresh (use_own rfl) (fresh_ok rfl) (entl_bor (use_lo rfl) rfl rfl (entl_bor (use_lo rfl) rfl rfl entl_nil)))))
   (fun c7 h => bif_split h
   (fun c8 h => ?_)
   (fun c8 h => ?_)))
   (fun c6 h => ?_))
   (fun c5 h => bif_split h
   (fun c6 h => bif_split h
   (fun c7 h => cond_no rfl (ret_at hR _ h (fun n => bif Nat.beq n 3 then 399 else n) rfl rfl rfl (rn_tup ⟨(rn_agg ⟨(rn_bool_tf rfl), (rn_own_nils rfl), trivial⟩), (rn_int rfl), trivial⟩) rfl (entl_fresh (use_own rfl) (fresh_ok rfl) (entl_bor (use_lo rfl) rfl rfl (entl_bor (use_lo rfl) rfl rfl entl_nil)))))
   (fun c7 h => bif_split h
   (fun c8 h => ?_)
   (fun c8 h => ?_)))
   (fun c6 h => ?_)))
   (fun c4 h => bif_split h
   (fun c5 h => bif_split h
   (fun c6 h => bif_split h
   (fun c7 h => cond_no rfl (ret_at hR _ h (fun n => bif Nat.beq n 3 then 399 else n) rfl rfl rfl (rn_tup ⟨(rn_agg ⟨(rn_bool_tf rfl), (rn_own_nils rfl), trivial⟩), (rn_int rfl), trivial⟩) rfl (entl_fresh (use_own rfl) (fresh_ok rfl) (entl_bor (use_lo rfl) rfl rfl (entl_bor (use_lo rfl) rfl rfl entl_nil)))))
   (fun c7 h => bif_split h
   (fun c8 h => ?_)
   (fun c8 h => ?_)))
   (fun c6 h => ?_))
   (fun c5 h => bif_split h
   (fun c6 h => bif_split h
   (fun c7 h => cond_no rfl (ret_at hR _ h (fun n => bif Nat.beq n 3 then 399 else n) rfl rfl rfl (rn_tup ⟨(rn_agg ⟨(rn_bool_tf rfl), (rn_own_nils rfl), trivial⟩), (rn_int rfl), trivial⟩) rfl (entl_fresh (use_own rfl) (fresh_ok rfl) (entl_bor (use_lo rfl) rfl rfl (entl_bor (use_lo rfl) rfl rfl entl_nil)))))
   (fun c7 h => bif_split h
   (fun c8 h => ?_)
   (fun c8 h => ?_)))
   (fun c6 h => ?_))))
   (fun c3 h => ?_))
   (fun c2 h => ?_))
   (fun c1 h => ?_))
   (fun c0 h => ?_)
  all_goals first
    | exact ret_at hR _ h (fun n => bif Nat.beq n 3 then 399 else n) rfl rfl rfl (rn_tup ⟨(rn_agg ⟨(rn_bool_tf rfl), (rn_own_nils rfl), trivial⟩), (rn_int rfl), trivial⟩) rfl (entl_fresh (use_own rfl) (fresh_ok rfl) (entl_bor (use_lo rfl) rfl rfl (entl_bor (use_lo rfl) rfl rfl entl_nil)))
    | exact no_some h
    | exact ret_at hR _ h (fun n => bif Nat.beq n 3 then 8 else n) rfl rfl rfl (rn_tup ⟨(rn_agg ⟨(rn_bool_tf rfl), (rn_own (use_own rfl) rfl rfl), trivial⟩), (rn_int rfl), trivial⟩) rfl (entl_new (use_own rfl) rfl (Nat.le_of_eq rfl) (rcs_int (fun _ _ => rfl) rcs_nil) (entl_bor (use_lo rfl) rfl rfl (entl_bor (use_lo rfl) rfl rfl entl_nil)))
theorem a26 (n1 : Bool) (ap np mp : Nat) (tp : Nat → Int) (n2 : Bool) (aq nq mq : Nat) (tq : Nat → Int) {r : Rt26} (h : Goes ((q26 n1 ap np mp tp n2 aq nq mq tq)) ((p26 n1 ap np mp tp n2 aq nq mq tq)) r) : CallR Tryd.prog 26 [.agg [.bool n1, .loose ⟨0, 1, ap, 0⟩ np], .agg [.bool n2, .loose ⟨1, 1, aq, 0⟩ nq]] [[(0, (false, .cols mp [.int .i64 tp])), (1, (false, .cols mq [.int .i64 tq]))]] 2 ((V26 n1 ap np mp tp n2 aq nq mq tq) r) ((fun r => [newL (2 + 1) ((N26 n1 ap np mp tp n2 aq nq mq tq) r) ++ [(0, (false, .cols mp [.int .i64 tp])), (1, (false, .cols mq [.int .i64 tq]))]]) r) 400 ∧ ∃ F, Tryd.prog.funcs[26]? = some F ∧ F.body.isSome = true ∧ (F.name == "runtime.NumGoroutine") = false := by
  refine dec_calls (f := 26) (lo := 2) (hi := 400) (H := [[(0, (false, .cols mp [.int .i64 tp])), (1, (false, .cols mq [.int .i64 tq]))]]) (args := [.agg [.bool n1, .loose ⟨0, 1, ap, 0⟩ np], .agg [.bool n2, .loose ⟨1, 1, aq, 0⟩ nq]]) Tryd.envOk Tryd.mixed xM_ok ((I26 n1 ap np mp tp n2 aq nq mq tq)) ((V26 n1 ap np mp tp n2 aq nq mq tq)) (fun r => [newL (2 + 1) ((N26 n1 ap np mp tp n2 aq nq mq tq) r) ++ [(0, (false, .cols mp [.int .i64 tp])), (1, (false, .cols mq [.int .i64 tq]))]]) (fn := mkFn Tryd.f26) (ts := []) (n := 400) rfl (by decide) (by simp) (names_of rfl) ?_ ?_ ?_ h
  · intro s; exact s.elim
  · intro Kst Kret x hS hR h
    exact Holds.eq (te26 cond Kst Kret n1 ap np mp tp n2 aq nq mq tq) (be26 n1 ap np mp tp n2 aq nq mq tq Kst Kret x hS hR h)
  · intro Kst Kret x hS hR s h; exact s.elim
noncomputable def k26  : Con := ⟨26, [.agg [.plain (.bool), .list [.int .i64]], .agg [.plain (.bool), .list [.int .i64]]], fun (x : (Bool × (Nat × Nat × Nat × (Nat → Int) × Unit) × Unit) × (Bool × (Nat × Nat × Nat × (Nat → Int) × Unit) × Unit) × Unit) => (fun (n1 : Bool) (ap np mp : Nat) (tp : Nat → Int) (n2 : Bool) (aq nq mq : Nat) (tq : Nat → Int) => decide ((ap + np ≤ mp ∧ np ≤ 1000000) ∧ aq + nq ≤ mq ∧ nq ≤ 1000000)) x.1.1 x.1.2.1.1 x.1.2.1.2.1 x.1.2.1.2.2.1 x.1.2.1.2.2.2.1 x.2.1.1 x.2.1.2.1.1 x.2.1.2.1.2.1 x.2.1.2.1.2.2.1 x.2.1.2.1.2.2.2.1, fun (x : (Bool × (Nat × Nat × Nat × (Nat → Int) × Unit) × Unit) × (Bool × (Nat × Nat × Nat × (Nat → Int) × Unit) × Unit) × Unit) => (fun (n1 : Bool) (ap np mp : Nat) (tp : Nat → Int) (n2 : Bool) (aq nq mq : Nat) (tq : Nat → Int) => (V26 n1 ap np mp tp n2 aq nq mq tq) ((S.mulI n1 np (fun j => tp (j + ap)) n2 nq (fun j => tq (j + aq))).1, (S.mulI n1 np (fun j => tp (j + ap)) n2 nq (fun j => tq (j + aq))).2.1, (S.mulI n1 np (fun j => tp (j + ap)) n2 nq (fun j => tq (j + aq))).2.2)) x.1.1 x.1.2.1.1 x.1.2.1.2.1 x.1.2.1.2.2.1 x.1.2.1.2.2.2.1 x.2.1.1 x.2.1.2.1.1 x.2.1.2.1.2.1 x.2.1.2.1.2.2.1 x.2.1.2.1.2.2.2.1, fun (x : (Bool × (Nat × Nat × Nat × (Nat → Int) × Unit) × Unit) × (Bool × (Nat × Nat × Nat × (Nat → Int) × Unit) × Unit) × Unit) => (fun (n1 : Bool) (ap np mp : Nat) (tp : Nat → Int) (n2 : Bool) (aq nq mq : Nat) (tq : Nat → Int) => (N26 n1 ap np mp tp n2 aq nq mq tq) ((S.mulI n1 np (fun j => tp (j + ap)) n2 nq (fun j => tq (j + aq))).1, (S.mulI n1 np (fun j => tp (j + ap)) n2 nq (fun j => tq (j + aq))).2.1, (S.mulI n1 np (fun j => tp (j + ap)) n2 nq (fun j => tq (j + aq))).2.2)) x.1.1 x.1.2.1.1 x.1.2.1.2.1 x.1.2.1.2.2.1 x.1.2.1.2.2.2.1 x.2.1.1 x.2.1.2.1.1 x.2.1.2.1.2.1 x.2.1.2.1.2.2.1 x.2.1.2.1.2.2.2.1, fun _ _ => .dead⟩
theorem s26 (n1 : Bool) (ap np mp : Nat) (tp : Nat → Int) (n2 : Bool) (aq nq mq : Nat) (tq : Nat → Int) (hp : (ap + np ≤ mp ∧ np ≤ 1000000) ∧ aq + nq ≤ mq ∧ nq ≤ 1000000) : Goes ((q26 n1 ap np mp tp n2 aq nq mq tq)) ((p26 n1 ap np mp tp n2 aq nq mq tq)) (((S.mulI n1 np (fun j => tp (j + ap)) n2 nq (fun j => tq (j + aq))).1, (S.mulI n1 np (fun j => tp (j + ap)) n2 nq (fun j => tq (j + aq))).2.1, (S.mulI n1 np (fun j => tp (j + ap)) n2 nq (fun j => tq (j + aq))).2.2)) := by
  obtain ⟨⟨hp1, hp2⟩, hp3, hp4⟩ := hp
  unfold S.mulI
  by_cases g1 : S.okI n1 np (fun j => tp (j + ap)) = true
  · obtain ⟨l1, k1⟩ := okI_G g1
    by_cases g2 : S.okI n2 nq (fun j => tq (j + aq)) = true
    · obtain ⟨l2, k2⟩ := okI_G g2
      have hq : (ap + np ≤ mp ∧ aq + nq ≤ mq) ∧ (np ≤ 1000 ∧ nq ≤ 1000) ∧ S.okG np (fun j => tp (j + ap)) = true ∧ S.okG nq (fun j => tq (j + aq)) = true := ⟨⟨hp1, hp3⟩, ⟨by omega, by omega⟩, k1, k2⟩
      have v1 := val_nn (okG_D k1)
      have v2 := val_nn (okG_D k2)
      have vm := mul_lt (a := 1000) (b := 1000) ⟨v1, val_lt (okG_D k1) (by omega)⟩ ⟨v2, val_lt (okG_D k2) (by omega)⟩
      have hl := grp_le vm.2
      rw [if_pos ⟨g1, g2⟩, fit_of, sv_mul, big_of vm.1]
      have hz := @len_zero ((S.val np (fun j => tp (j + ap))) * (S.val nq (fun j => tq (j + aq))))
      have ho : 0 + (S.grp ((S.val np (fun j => tp (j + ap))) * (S.val nq (fun j => tq (j + aq))))).length ≤ (S.grp ((S.val np (fun j => tp (j + ap))) * (S.val nq (fun j => tq (j + aq))))).length ∧ (S.grp ((S.val np (fun j => tp (j + ap))) * (S.val nq (fun j => tq (j + aq))))).length ≤ 1000000 ∧ (S.okD (S.grp ((S.val np (fun j => tp (j + ap))) * (S.val nq (fun j => tq (j + aq))))).length fun j => S.at' (S.grp ((S.val np (fun j => tp (j + ap))) * (S.val nq (fun j => tq (j + aq))))) j) = true := ⟨by omega, by omega, okG_D grp_ok⟩
      have hvl := val_grpL vm.1
      unfold p26
      cases n1 <;> cases n2 <;>
      (simp only [cond_true, cond_false, g1, g2, bne_self_eq_false, show (true != false) = true from rfl, show (false != true) = true from rfl, decide_eq_true (⟨hp1, hp2⟩ : ap + np ≤ mp ∧ np ≤ 1000000), decide_eq_true (⟨hp3, hp4⟩ : aq + nq ≤ mq ∧ nq ≤ 1000000), decide_eq_true hq, beq_zero, Bool.false_and, Bool.true_and]
       generalize (S.val np (fun j => tp (j + ap))) * (S.val nq (fun j => tq (j + aq))) = v at *
       by_cases h8 : (S.grp v).length > 80
       · rw [if_pos h8]
         have hv0 : 0 < v := by
           refine Int.not_le.mp fun h => ?_
           rw [grp_neg h] at h8
           exact absurd h8 (by simp)
         rw [decide_eq_false (by omega : ¬ v ≤ 0), cond_false]
         rw [decide_eq_true (by omega : (((S.grp v).length : Nat) : Int) > 80), cond_true]
         exact goes_inr.mpr rfl
       · rw [if_neg h8]
         by_cases hv0 : v ≤ 0
         · (try rw [decide_eq_false (by omega : ¬ 0 < v)])
           rw [decide_eq_true hv0, cond_true, grp_neg hv0]
           exact goes_inr.mpr rfl
         · (try rw [decide_eq_true (by omega : 0 < v)])
           rw [decide_eq_false hv0, cond_false, decide_eq_false (by omega : ¬ (((S.grp v).length : Nat) : Int) > 80), cond_false]
           exact goes_inr.mpr rfl)
    · rw [if_neg (fun h => g2 h.2)]
      have g2 := Bool.not_eq_true _ ▸ g2
      unfold p26
      cases n1 <;> cases n2 <;> simp only [cond_true, cond_false, g1, g2, decide_eq_true (⟨hp1, hp2⟩ : ap + np ≤ mp ∧ np ≤ 1000000), decide_eq_true (⟨hp3, hp4⟩ : aq + nq ≤ mq ∧ nq ≤ 1000000)] <;> exact goes_inr.mpr rfl
  · rw [if_neg (fun h => g1 h.1)]
    have g1 := Bool.not_eq_true _ ▸ g1
    unfold p26
    cases n1 <;> simp only [cond_true, cond_false, g1, decide_eq_true (⟨hp1, hp2⟩ : ap + np ≤ mp ∧ np ≤ 1000000)] <;> exact goes_inr.mpr rfl
theorem k26_ok  : k26.ok Tryd.prog := by
  intro x hx
  obtain ⟨⟨n1, ⟨ap, np, mp, tp, _⟩, _⟩, ⟨n2, ⟨aq, nq, mq, tq, _⟩, _⟩, _⟩ := x
  obtain ⟨h1, h2⟩ := a26 n1 ap np mp tp n2 aq nq mq tq (s26 n1 ap np mp tp n2 aq nq mq tq (of_dec hx rfl))
  exact ⟨⟨400, (by decide : 2 + 1 + 1 ≤ 400), h1⟩, h2⟩
namespace S
def desV (n : Nat) (t : Nat → Int) : Int := val n (fun j => t j % 1000000)
def u32B (t : Nat → Int) (n : Nat) : Bool := all (fun j => decide (0 ≤ t j ∧ t j ≤ 4294967295)) n
end S
theorem u32B_mk  {n : Nat} {t : Nat → Int} (h : ∀ j, j < n → 0 ≤ t j ∧ t j ≤ 4294967295) : S.u32B t n = true := all_iff.mpr fun j hj => decide_eq_true (h j hj)
theorem desV_dig (n : Nat) (t : Nat → Int) : S.okD n (fun j => t j % 1000000) = true := okD_iff.mpr fun j _ => by omega
theorem desV_nn  {n : Nat} {t : Nat → Int} : 0 ≤ S.desV n t := val_nn (desV_dig n t)
theorem desV_lt  {n m : Nat} {t : Nat → Int} (h : n ≤ m) : S.desV n t < S.pw m := val_lt (desV_dig n t) h
inductive St62 where
  | h0 (x0 : Int) (x1 : List Int)
abbrev Rt62  := Bool × List Int
noncomputable def V62 (ng : Bool) (ap np mp : Nat) (tp : Nat → Int) (r : Rt62) : PV := PV.agg [PV.bool r.1, PV.own (2) (1) (List.length r.2)]
noncomputable def N62 (ng : Bool) (ap np mp : Nat) (tp : Nat → Int) (r : Rt62) : List Blk := [Blk.cols (List.length r.2) [Col.int IntKind.i64 fun j => S.at' r.2 j]]
noncomputable def I62 (ng : Bool) (ap np mp : Nat) (tp : Nat → Int) : St62 → Hd
  | .h0 x0 x1 => ⟨hd Tryd.f62 0, [PV.bool ng, PV.loose (PA.mk (0) (1) ap (0)) np,
 PV.ptr (PA.mk (1) (0) (0) (0)),
 PV.own (2) (1) (List.length x1), PV.int IntKind.i64 x0], [[(1, (true, Blk.cells [PV.tf false, PV.nils])), (2, (true, Blk.cols (List.length x1) [Col.int IntKind.i64 fun j => S.at' x1 j]))], [(0, (false, .cols mp [.int .u32 tp]))]], 3⟩
noncomputable def q62 (ng : Bool) (ap np mp : Nat) (tp : Nat → Int) : St62 → Option (St62 ⊕ Rt62)
  | .h0 x0 x1 => bif (decide (x0 < (↑np : Int)))
 then (bif (decide (x0 < (80 : Int)))
 then (bif (decide ((0 : Int) ≤ x0 ∧ x0 < (↑np : Int)))
 then (bif (decide (Int.toNat x0 + ap < mp))
 then (bif (lim IntKind.i64 (tp (Int.toNat x0 + ap)))
 then (bif (decide (List.length x1 + 1 ≤ 1000000))
 then (bif (decide (List.length x1 ≤ List.length x1))
 then (bif (lim IntKind.i64 (x0 + (1 : Int)))
 then (some (.inl (.h0 (x0 + (1 : Int)) (S.snoc x1 (Int.tmod (tp (Int.toNat x0 + ap)) (1000000 : Int))))))
 else (none))
 else (none))
 else (none))
 else (none))
 else (none))
 else (none))
 else (bif (ng)
 then (bif (decide
 (0 + List.length x1 ≤ List.length x1 ∧
 List.length x1 ≤ 1000000 ∧ (S.okD (List.length x1) fun j => S.at' x1 j) = true))
 then (some (.inr (S.sgB true (S.val (List.length x1) fun j => S.at' x1 j), S.grp (S.val (List.length x1) fun j => S.at' x1 j))))
 else (none))
 else (bif (decide
 (0 + List.length x1 ≤ List.length x1 ∧
 List.length x1 ≤ 1000000 ∧ (S.okD (List.length x1) fun j => S.at' x1 j) = true))
 then (some (.inr (S.sgB false (S.val (List.length x1) fun j => S.at' x1 j), S.grp (S.val (List.length x1) fun j => S.at' x1 j))))
 else (none))))
 else (bif (ng)
 then (bif (decide
 (0 + List.length x1 ≤ List.length x1 ∧
 List.length x1 ≤ 1000000 ∧ (S.okD (List.length x1) fun j => S.at' x1 j) = true))
 then (some (.inr (S.sgB true (S.val (List.length x1) fun j => S.at' x1 j), S.grp (S.val (List.length x1) fun j => S.at' x1 j))))
 else (none))
 else (bif (decide
 (0 + List.length x1 ≤ List.length x1 ∧
 List.length x1 ≤ 1000000 ∧ (S.okD (List.length x1) fun j => S.at' x1 j) = true))
 then (some (.inr (S.sgB false (S.val (List.length x1) fun j => S.at' x1 j), S.grp (S.val (List.length x1) fun j => S.at' x1 j))))
 else (none)))
noncomputable def p62 (ng : Bool) (ap np mp : Nat) (tp : Nat → Int) : Option (St62 ⊕ Rt62) := some (.inl (.h0 ((0 : Int)) ([])))
noncomputable def Te62 (test : Bool → Prop → Prop → Prop) (Kst : KS) (Kret : KR) (ng : Bool) (ap np mp : Nat) (tp : Nat → Int) : Prop :=
  Kst (hd Tryd.f62 0) ([PV.bool ng, PV.loose (PA.mk (0) (1) ap (0)) np,
 PV.ptr (PA.mk (1) (0) (0) (0)), PV.nils,
 PV.int IntKind.i64 (0 : Int)]) ([[(0, false, Blk.cols mp [Col.int IntKind.u32 tp]),
 (1, true, Blk.cells [PV.tf false, PV.nils])]]) (2)
theorem te62 (test : Bool → Prop → Prop → Prop) (Kst : KS) (Kret : KR) (ng : Bool) (ap np mp : Nat) (tp : Nat → Int) : run test Tryd.env true (xM test) true 400 ⟨62, [.cd (mkFn Tryd.f62).body], argT 0 [.bool ng, .loose ⟨0, 1, ap, 0⟩ np], [[], [(0, (false, .cols mp [.int .u32 tp]))]], 1⟩ (proj 1 [0, 1, 4, 5, 6] Kst Kret) =
  Te62 test Kst Kret ng ap np mp tp := by kernel_rfl
noncomputable def T62_0 (test : Bool → Prop → Prop → Prop) (Kst : KS) (Kret : KR) (ng : Bool) (ap np mp : Nat) (tp : Nat → Int) (x0 : Int) (x1 : List Int) : Prop :=
  test (decide (x0 < (↑np : Int)))
 (test (decide (x0 < (80 : Int)))
 (test (decide ((0 : Int) ≤ x0 ∧ x0 < (↑np : Int)))
 (test (decide (Int.toNat x0 + ap < mp))
 (test (lim IntKind.i64 (tp (Int.toNat x0 + ap)))
 (test (false)
 (False)
 (test (decide (List.length x1 + 1 ≤ 1000000))
 (test (decide (List.length x1 ≤ List.length x1))
 (test (true)
 (test (lim IntKind.i64 (x0 + (1 : Int)))
 (Kst (hd Tryd.f62 0) ([PV.bool ng, PV.loose (PA.mk (0) (1) ap (0)) np,
 PV.ptr (PA.mk (1) (0) (0) (0)),
 PV.own (4) (1) (List.length x1 + 1), PV.int IntKind.i64 (x0 + (1 : Int))]) ([[(0, false, Blk.cols mp [Col.int IntKind.u32 tp]),
 (4, true,
 Blk.cols (List.length x1 + 1)
 [Col.int IntKind.i64 fun j =>
 bif Nat.blt j (List.length x1) then S.at' x1 j
 else Int.tmod (tp (Int.toNat x0 + ap)) (1000000 : Int)]),
 (1, true, Blk.cells [PV.tf false, PV.nils])]]) (5))
 (False))
 (False))
 (False))
 (False)))
 (False))
 (False))
 (False))
 (test (ng)
 (test (decide
 (0 + List.length x1 ≤ List.length x1 ∧
 List.length x1 ≤ 1000000 ∧ (S.okD (List.length x1) fun j => S.at' x1 j) = true))
 (Kret (PV.agg
 [PV.bool (S.sgB true (S.val (List.length x1) fun j => S.at' x1 j)),
 PV.own (4) (1)
 (List.length (S.grp (S.val (List.length x1) fun j => S.at' x1 j)))]) ([[(0, false, Blk.cols mp [Col.int IntKind.u32 tp]),
 (4, true,
 Blk.cols (List.length (S.grp (S.val (List.length x1) fun j => S.at' x1 j)))
 [Col.int IntKind.i64 fun j =>
 S.at' (S.grp (S.val (List.length x1) fun j => S.at' x1 j)) j])]]) (5))
 (False))
 (test (decide
 (0 + List.length x1 ≤ List.length x1 ∧
 List.length x1 ≤ 1000000 ∧ (S.okD (List.length x1) fun j => S.at' x1 j) = true))
 (Kret (PV.agg
 [PV.bool (S.sgB false (S.val (List.length x1) fun j => S.at' x1 j)),
 PV.own (4) (1)
 (List.length (S.grp (S.val (List.length x1) fun j => S.at' x1 j)))]) ([[(0, false, Blk.cols mp [Col.int IntKind.u32 tp]),
 (4, true,
 Blk.cols (List.length (S.grp (S.val (List.length x1) fun j => S.at' x1 j)))
 [Col.int IntKind.i64 fun j =>
 S.at' (S.grp (S.val (List.length x1) fun j => S.at' x1 j)) j])]]) (5))
 (False))))
 (test (ng)
 (test (decide
 (0 + List.length x1 ≤ List.length x1 ∧
 List.length x1 ≤ 1000000 ∧ (S.okD (List.length x1) fun j => S.at' x1 j) = true))
 (Kret (PV.agg
 [PV.bool (S.sgB true (S.val (List.length x1) fun j => S.at' x1 j)),
 PV.own (4) (1)
 (List.length (S.grp (S.val (List.length x1) fun j => S.at' x1 j)))]) ([[(0, false, Blk.cols mp [Col.int IntKind.u32 tp]),
 (4, true,
 Blk.cols (List.length (S.grp (S.val (List.length x1) fun j => S.at' x1 j)))
 [Col.int IntKind.i64 fun j =>
 S.at' (S.grp (S.val (List.length x1) fun j => S.at' x1 j)) j])]]) (5))
 (False))
 (test (decide
 (0 + List.length x1 ≤ List.length x1 ∧
 List.length x1 ≤ 1000000 ∧ (S.okD (List.length x1) fun j => S.at' x1 j) = true))
 (Kret (PV.agg
 [PV.bool (S.sgB false (S.val (List.length x1) fun j => S.at' x1 j)),
 PV.own (4) (1)
 (List.length (S.grp (S.val (List.length x1) fun j => S.at' x1 j)))]) ([[(0, false, Blk.cols mp [Col.int IntKind.u32 tp]),
 (4, true,
 Blk.cols (List.length (S.grp (S.val (List.length x1) fun j => S.at' x1 j)))
 [Col.int IntKind.i64 fun j =>
 S.at' (S.grp (S.val (List.length x1) fun j => S.at' x1 j)) j])]]) (5))
 (False)))
theorem t62_0 (test : Bool → Prop → Prop → Prop) (Kst : KS) (Kret : KR) (ng : Bool) (ap np mp : Nat) (tp : Nat → Int) (x0 : Int) (x1 : List Int) : run test Tryd.env true (xM test) true 400 ⟨62, hd Tryd.f62 0, zipT [0, 1, 4, 5, 6] [PV.bool ng, PV.loose (PA.mk (0) (1) ap (0)) np,
 PV.ptr (PA.mk (1) (0) (0) (0)),
 PV.own (2) (1) (List.length x1), PV.int IntKind.i64 x0], [[(1, (true, Blk.cells [PV.tf false, PV.nils])), (2, (true, Blk.cols (List.length x1) [Col.int IntKind.i64 fun j => S.at' x1 j]))], [(0, (false, .cols mp [.int .u32 tp]))]], 3⟩ (proj 1 [0, 1, 4, 5, 6] Kst Kret) =
  T62_0 test Kst Kret ng ap np mp tp x0 x1 := by kernel_rfl
attribute [local irreducible] Int.subNatNat in
theorem be62 (ng : Bool) (ap np mp : Nat) (tp : Nat → Int) (Kst : KS) (Kret : KR) (x : St62 ⊕ Rt62) (hS : HS 1 400 ((I62 ng ap np mp tp)) Kst x) (hR : HR 1 400 ((V62 ng ap np mp tp)) (fun r => [newL (1 + 1) ((N62 ng ap np mp tp) r) ++ [(0, (false, .cols mp [.int .u32 tp]))]]) Kret x) (h : (some (.inl (.h0 ((0 : Int)) ([]))) : Option (St62 ⊕ Rt62)) = some x) : Te62 cond Kst Kret ng ap np mp tp := by
  unfold Te62
  exact stop_at hS _ h (fun n => bif Nat.beq n 1 then 1 else bif Nat.beq n 2 then 399 else n) rfl rfl rfl ⟨(rn_bool rfl), ⟨(rn_loose (use_lo rfl) rfl rfl rfl), ⟨(rn_ptr (use_own rfl) rfl rfl), ⟨(rn_own_nils rfl), ⟨(rn_int rfl), trivial⟩⟩⟩⟩⟩ rfl (entl_b (use_own rfl) rfl (by simp) (rb_cells ⟨(rn_tf rfl), rn_nils, trivial⟩) (entl_fresh (use_own rfl) (fresh_ok rfl) (entl_bor (use_lo rfl) rfl rfl entl_nil)))
attribute [local irreducible] Int.subNatNat in
theorem b62_0 (ng : Bool) (ap np mp : Nat) (tp : Nat → Int) (Kst : KS) (Kret : KR) (x : St62 ⊕ Rt62) (hS : HS 1 400 ((I62 ng ap np mp tp)) Kst x) (hR : HR 1 400 ((V62 ng ap np mp tp)) (fun r => [newL (1 + 1) ((N62 ng ap np mp tp) r) ++ [(0, (false, .cols mp [.int .u32 tp]))]]) Kret x) (x0 : Int) (x1 : List Int) (h : (bif (decide (x0 < (↑np : Int)))
 then (bif (decide (x0 < (80 : Int)))
 then (bif (decide ((0 : Int) ≤ x0 ∧ x0 < (↑np : Int)))
 then (bif (decide (Int.toNat x0 + ap < mp))
 then (bif (lim IntKind.i64 (tp (Int.toNat x0 + ap)))
 then (bif (decide (List.length x1 + 1 ≤ 1000000))
 then (bif (decide (List.length x1 ≤ List.length x1))
 then (bif (lim IntKind.i64 (x0 + (1 : Int)))
 then (some (.inl (.h0 (x0 + (1 : Int)) (S.snoc x1 (Int.tmod (tp (Int.toNat x0 + ap)) (1000000 : Int))))))
 else (none))
 else (none))
 else (none))
 else (none))
 else (none))
 else (none))
 else (bif (ng)
 then (bif (decide
 (0 + List.length x1 ≤ List.length x1 ∧
 List.length x1 ≤ 1000000 ∧ (S.okD (List.length x1) fun j => S.at' x1 j) = true))
 then (some (.inr (S.sgB true (S.val (List.length x1) fun j => S.at' x1 j), S.grp (S.val (List.length x1) fun j => S.at' x1 j))))
 else (none))
 else (bif (decide
 (0 + List.length x1 ≤ List.length x1 ∧
 List.length x1 ≤ 1000000 ∧ (S.okD (List.length x1) fun j => S.at' x1 j) = true))
 then (some (.inr (S.sgB false (S.val (List.length x1) fun j => S.at' x1 j), S.grp (S.val (List.length x1) fun j => S.at' x1 j))))
 else (none))))
 else (bif (ng)
 then (bif (decide
 (0 + List.length x1 ≤ List.length x1 ∧
 List.length x1 ≤ 1000000 ∧ (S.okD (List.length x1) fun j => S.at' x1 j) = true))
 then (some (.inr (S.sgB true (S.val (List.length x1) fun j => S.at' x1 j), S.grp (S.val (List.length x1) fun j => S.at' x1 j))))
 else (none))
 else (bif (decide
 (0 + List.length x1 ≤ List.length x1 ∧
 List.length x1 ≤ 1000000 ∧ (S.okD (List.length x1) fun j => S.at' x1 j) = true))
 then (some (.inr (S.sgB false (S.val (List.length x1) fun j => S.at' x1 j), S.grp (S.val (List.length x1) fun j => S.at' x1 j))))
 else (none))) : Option (St62 ⊕ Rt62)) = some x) : T62_0 cond Kst Kret ng ap np mp tp x0 x1 := by
  unfold T62_0
  refine bif_split h
   (fun c0 h => bif_split h
   (fun c1 h => bif_split h
   (fun c2 h => bif_split h
   (fun c3 h => bif_split h
   (fun c4 h => cond_no rfl (bif_split h
   (fun c5 h => bif_split h
   (fun c6 h => cond_yes rfl (bif_split h
   (fun c7 h => stop_at hS _ h (fun n => bif Nat.beq n 1 then 1 else bif Nat.beq n 2 then 4 else n) rfl rfl rfl ⟨(rn_bool rfl), ⟨(rn_loose (use_lo rfl) rfl rfl rfl), ⟨(rn_ptr (use_own rfl) rfl rfl), ⟨(rn_own (use_own rfl) rfl (snoc_len' rfl)), ⟨(rn_int rfl), trivial⟩⟩⟩⟩⟩ rfl (entl_b (use_own rfl) rfl (by simp) (rb_cells ⟨(rn_tf rfl), rn_nils, trivial⟩) (entl_new (use_own rfl) rfl (Nat.le_of_eq (snoc_len' rfl)) (rcs_int (col_snoc' (fun (t : Int) => t) rfl (fun _ _ => rfl)) rcs_nil) (entl_bor (use_lo rfl) rfl rfl entl_nil))))
   (fun c7 h => ?_)))
   (fun c6 h => ?_))
   (fun c5 h => ?_)))
   (fun c4 h => ?_))
   (fun c3 h => ?_))
   (fun c2 h => ?_))
   (fun c1 h => bif_split h
   (fun c2 h => bif_split h
   (fun c3 h => ?_)
   (fun c3 h => ?_))
   (fun c2 h => bif_split h
   (fun c3 h => ?_)
   (fun c3 h => ?_))))
   (fun c0 h => bif_split h
   (fun c1 h => bif_split h
   (fun c2 h => ?_)
   (fun c2 h => ?_))
   (fun c1 h => bif_split h
   (fun c2 h => ?_)
   (fun c2 h => ?_)))
  all_goals first
    | exact no_some h
    | exact ret_at hR _ h (fun n => bif Nat.beq n 2 then 4 else n) rfl rfl rfl (rn_agg ⟨(rn_bool rfl), (rn_own (use_own rfl) rfl rfl), trivial⟩) rfl (entl_new (use_own rfl) rfl (Nat.le_of_eq rfl) (rcs_int (fun _ _ => rfl) rcs_nil) (entl_bor (use_lo rfl) rfl rfl entl_nil))
theorem a62 (ng : Bool) (ap np mp : Nat) (tp : Nat → Int) {r : Rt62} (h : Goes ((q62 ng ap np mp tp)) ((p62 ng ap np mp tp)) r) : CallR Tryd.prog 62 [.bool ng, .loose ⟨0, 1, ap, 0⟩ np] [[(0, (false, .cols mp [.int .u32 tp]))]] 1 ((V62 ng ap np mp tp) r) ((fun r => [newL (1 + 1) ((N62 ng ap np mp tp) r) ++ [(0, (false, .cols mp [.int .u32 tp]))]]) r) 400 ∧ ∃ F, Tryd.prog.funcs[62]? = some F ∧ F.body.isSome = true ∧ (F.name == "runtime.NumGoroutine") = false := by
  refine dec_calls (f := 62) (lo := 1) (hi := 400) (H := [[(0, (false, .cols mp [.int .u32 tp]))]]) (args := [.bool ng, .loose ⟨0, 1, ap, 0⟩ np]) Tryd.envOk Tryd.mixed xM_ok ((I62 ng ap np mp tp)) ((V62 ng ap np mp tp)) (fun r => [newL (1 + 1) ((N62 ng ap np mp tp) r) ++ [(0, (false, .cols mp [.int .u32 tp]))]]) (fn := mkFn Tryd.f62) (ts := [0, 1, 4, 5, 6]) (n := 400) rfl (by decide) (by simp) (names_of rfl) ?_ ?_ ?_ h
  · intro s; cases s <;> exact ⟨hd_ok _ _, by simp [I62], names_of rfl, Nat.le_of_ble_eq_true rfl⟩
  · intro Kst Kret x hS hR h
    exact Holds.eq (te62 cond Kst Kret ng ap np mp tp) (be62 ng ap np mp tp Kst Kret x hS hR h)
  · intro Kst Kret x hS hR s h
    cases s with
    | h0 x0 x1 => exact Holds.eq (t62_0 cond Kst Kret ng ap np mp tp x0 x1) (b62_0 ng ap np mp tp Kst Kret x hS hR x0 x1 h)
noncomputable def k62  : Con := ⟨62, [.one (.plain (.bool)), .one (.list [.int .u32])], fun (x : Bool × (Nat × Nat × Nat × (Nat → Int) × Unit) × Unit) => (fun (ng : Bool) (ap np mp : Nat) (tp : Nat → Int) => decide (ap + np ≤ mp ∧ S.u32B (fun j => tp (j + ap)) np = true)) x.1 x.2.1.1 x.2.1.2.1 x.2.1.2.2.1 x.2.1.2.2.2.1, fun (x : Bool × (Nat × Nat × Nat × (Nat → Int) × Unit) × Unit) => (fun (ng : Bool) (ap np mp : Nat) (tp : Nat → Int) => (V62 ng ap np mp tp) (S.sgB ng (S.desV (min np 80) (fun j => tp (j + ap))), S.grp (S.desV (min np 80) (fun j => tp (j + ap))))) x.1 x.2.1.1 x.2.1.2.1 x.2.1.2.2.1 x.2.1.2.2.2.1, fun (x : Bool × (Nat × Nat × Nat × (Nat → Int) × Unit) × Unit) => (fun (ng : Bool) (ap np mp : Nat) (tp : Nat → Int) => (N62 ng ap np mp tp) (S.sgB ng (S.desV (min np 80) (fun j => tp (j + ap))), S.grp (S.desV (min np 80) (fun j => tp (j + ap))))) x.1 x.2.1.1 x.2.1.2.1 x.2.1.2.2.1 x.2.1.2.2.2.1, fun _ _ => .dead⟩
theorem s62' (ng : Bool) (ap np mp : Nat) (tp : Nat → Int) (hp : ap + np ≤ mp ∧ S.u32B (fun j => tp (j + ap)) np = true) : ∀ (k i : Nat), i + k = min np 80 → Comes (q62 ng ap np mp tp) (.h0 (i : Int) (S.mkl i fun j => tp (j + ap) % 1000000)) (S.sgB ng (S.desV (min np 80) (fun j => tp (j + ap))), S.grp (S.desV (min np 80) (fun j => tp (j + ap)))) := by
  obtain ⟨hp1, hp2⟩ := hp
  have hb : ∀ j, j < np → 0 ≤ tp (j + ap) ∧ tp (j + ap) ≤ 4294967295 := fun j hj => of_decide_eq_true (all_iff.mp hp2 j hj)
  intro k
  induction k with
  | zero =>
    intro i hi
    obtain rfl : i = min np 80 := by omega
    have hd : (S.okD (min np 80) fun j => S.at' (S.mkl (min np 80) fun j => tp (j + ap) % 1000000) j) = true := okD_iff.mpr fun j hj => by rw [at_mkl hj]; omega
    have hv : (S.val (min np 80) fun j => S.at' (S.mkl (min np 80) fun j => tp (j + ap) % 1000000) j) = (S.desV (min np 80) (fun j => tp (j + ap))) := val_congr fun j hj => at_mkl hj
    apply Comes.of
    show Goes _ _ _
    rw [q62]
    simp only [mkl_len, hv]
    have hc : 0 + min np 80 ≤ min np 80 ∧ min np 80 ≤ 1000000 ∧ (S.okD (min np 80) fun j => S.at' (S.mkl (min np 80) fun j => tp (j + ap) % 1000000) j) = true := ⟨by omega, by omega, hd⟩
    simp only [decide_eq_true hc, cond_true]
    generalize (S.desV (min np 80) (fun j => tp (j + ap))) = v at *
    cases ng
    repeat' first
      | with_reducible refine goes_if (fun h => ?_) (fun h => ?_) <;> (try simp only [SH] at h)
      | exact goes_none.mpr (by omega)
    all_goals first | (exfalso; omega) | exact goes_inr.mpr rfl
    repeat' first
      | with_reducible refine goes_if (fun h => ?_) (fun h => ?_) <;> (try simp only [SH] at h)
      | exact goes_none.mpr (by omega)
    all_goals first | (exfalso; omega) | exact goes_inr.mpr rfl
  | succ k ih =>
    intro i hi
    have ih := ih (i + 1) (by omega)
    have hbi := hb i (by omega)
    rw [mkl_succ, ← tmB hbi.1] at ih
    apply Comes.of
    show Goes _ _ _
    (first | rw [q62] | unfold q62)
    repeat' first
      | with_reducible refine goes_if (fun h => ?_) (fun h => ?_) <;> (try simp only [SH, mkl_len] at h)
      | exact goes_none.mpr (by omega)
    all_goals first | (exfalso; omega) | exact ih
theorem s62 (ng : Bool) (ap np mp : Nat) (tp : Nat → Int) (hp : ap + np ≤ mp ∧ S.u32B (fun j => tp (j + ap)) np = true) : Goes ((q62 ng ap np mp tp)) ((p62 ng ap np mp tp)) ((S.sgB ng (S.desV (min np 80) (fun j => tp (j + ap))), S.grp (S.desV (min np 80) (fun j => tp (j + ap))))) := by
  have hm := s62' ng ap np mp tp hp (min np 80) 0 (by omega)
  exact hm
theorem k62_ok  : k62.ok Tryd.prog := by
  intro x hx
  obtain ⟨ng, ⟨ap, np, mp, tp, _⟩, _⟩ := x
  obtain ⟨h1, h2⟩ := a62 ng ap np mp tp (s62 ng ap np mp tp (of_dec hx rfl))
  exact ⟨⟨400, (by decide : 1 + 1 + 1 ≤ 400), h1⟩, h2⟩
noncomputable def xN (test : Bool → Prop → Prop → Prop) : Ext := consX test [k69, k65, k69v, k65v, k46, k62]
theorem xN_ok  : ExtOk Tryd.prog (xN cond) := consX_ok ⟨k69_ok, k65_ok, k69v_ok, k65v_ok, k46_ok, k62_ok, trivial⟩
abbrev St33  := Empty
abbrev Rt33  := Bool × List Int
noncomputable def V33 (ng : Bool) (ap np mp : Nat) (tp : Nat → Int) (r : Rt33) : PV := PV.agg [PV.bool r.1, PV.own (2) (1) (List.length r.2)]
noncomputable def N33 (ng : Bool) (ap np mp : Nat) (tp : Nat → Int) (r : Rt33) : List Blk := [Blk.cols (List.length r.2) [Col.int IntKind.i64 fun j => S.at' r.2 j]]
noncomputable def I33 (ng : Bool) (ap np mp : Nat) (tp : Nat → Int) : St33 → Hd := fun s => s.elim
noncomputable def q33 (ng : Bool) (ap np mp : Nat) (tp : Nat → Int) : St33 → Option (St33 ⊕ Rt33) := fun s => s.elim
noncomputable def p33 (ng : Bool) (ap np mp : Nat) (tp : Nat → Int) : Option (St33 ⊕ Rt33) := bif (ng)
 then (bif (decide
 ((0 : Int) ≤ Option.getD Option.none (0 : Int) ∧
 (0 : Int) ≤ Min.min (↑np : Int) (20 : Int) ∧ Min.min (↑np : Int) (20 : Int) ≤ (↑np : Int)))
 then (bif (decide
 (0 + ap + Int.toNat (Min.min (↑np : Int) (20 : Int)) ≤ mp ∧
 S.u32B (fun j => tp (j + (0 + ap))) (Int.toNat (Min.min (↑np : Int) (20 : Int))) = true))
 then (some (.inr (S.sgB true
 (S.desV (Min.min (Int.toNat (Min.min (↑np : Int) (20 : Int))) (80)) fun j =>
 tp (j + (0 + ap))), S.grp
 (S.desV (Min.min (Int.toNat (Min.min (↑np : Int) (20 : Int))) (80)) fun j =>
 tp (j + (0 + ap))))))
 else (none))
 else (none))
 else (bif (decide
 ((0 : Int) ≤ Option.getD Option.none (0 : Int) ∧
 (0 : Int) ≤ Min.min (↑np : Int) (20 : Int) ∧ Min.min (↑np : Int) (20 : Int) ≤ (↑np : Int)))
 then (bif (decide
 (0 + ap + Int.toNat (Min.min (↑np : Int) (20 : Int)) ≤ mp ∧
 S.u32B (fun j => tp (j + (0 + ap))) (Int.toNat (Min.min (↑np : Int) (20 : Int))) = true))
 then (some (.inr (S.sgB false
 (S.desV (Min.min (Int.toNat (Min.min (↑np : Int) (20 : Int))) (80)) fun j =>
 tp (j + (0 + ap))), S.grp
 (S.desV (Min.min (Int.toNat (Min.min (↑np : Int) (20 : Int))) (80)) fun j =>
 tp (j + (0 + ap))))))
 else (none))
 else (none))
noncomputable def Te33 (test : Bool → Prop → Prop → Prop) (Kst : KS) (Kret : KR) (ng : Bool) (ap np mp : Nat) (tp : Nat → Int) : Prop :=
  test (ng)
 (test (decide
 ((0 : Int) ≤ Option.getD Option.none (0 : Int) ∧
 (0 : Int) ≤ Min.min (↑np : Int) (20 : Int) ∧ Min.min (↑np : Int) (20 : Int) ≤ (↑np : Int)))
 (test (decide
 (0 + ap + Int.toNat (Min.min (↑np : Int) (20 : Int)) ≤ mp ∧
 S.u32B (fun j => tp (j + (0 + ap))) (Int.toNat (Min.min (↑np : Int) (20 : Int))) = true))
 (Kret (PV.agg
 [PV.bool
 (S.sgB true
 (S.desV (Min.min (Int.toNat (Min.min (↑np : Int) (20 : Int))) (80)) fun j =>
 tp (j + (0 + ap)))),
 PV.own (4) (1)
 (List.length
 (S.grp
 (S.desV (Min.min (Int.toNat (Min.min (↑np : Int) (20 : Int))) (80)) fun j =>
 tp (j + (0 + ap)))))]) ([[(0, false, Blk.cols mp [Col.int IntKind.u32 tp]),
 (4, true,
 Blk.cols
 (List.length
 (S.grp
 (S.desV (Min.min (Int.toNat (Min.min (↑np : Int) (20 : Int))) (80)) fun j =>
 tp (j + (0 + ap)))))
 [Col.int IntKind.i64 fun j =>
 S.at'
 (S.grp
 (S.desV (Min.min (Int.toNat (Min.min (↑np : Int) (20 : Int))) (80)) fun j =>
 tp (j + (0 + ap))))
 j])]]) (5))
 (False))
 (False))
 (test (decide
 ((0 : Int) ≤ Option.getD Option.none (0 : Int) ∧
 (0 : Int) ≤ Min.min (↑np : Int) (20 : Int) ∧ Min.min (↑np : Int) (20 : Int) ≤ (↑np : Int)))
 (test (decide
 (0 + ap + Int.toNat (Min.min (↑np : Int) (20 : Int)) ≤ mp ∧
 S.u32B (fun j => tp (j + (0 + ap))) (Int.toNat (Min.min (↑np : Int) (20 : Int))) = true))
 (Kret (PV.agg
 [PV.bool
 (S.sgB false
 (S.desV (Min.min (Int.toNat (Min.min (↑np : Int) (20 : Int))) (80)) fun j =>
 tp (j + (0 + ap)))),
 PV.own (4) (1)
 (List.length
 (S.grp
 (S.desV (Min.min (Int.toNat (Min.min (↑np : Int) (20 : Int))) (80)) fun j =>
 tp (j + (0 + ap)))))]) ([[(0, false, Blk.cols mp [Col.int IntKind.u32 tp]),
 (4, true,
 Blk.cols
 (List.length
 (S.grp
 (S.desV (Min.min (Int.toNat (Min.min (↑np : Int) (20 : Int))) (80)) fun j =>
 tp (j + (0 + ap)))))
 [Col.int IntKind.i64 fun j =>
 S.at'
 (S.grp
 (S.desV (Min.min (Int.toNat (Min.min (↑np : Int) (20 : Int))) (80)) fun j =>
 tp (j + (0 + ap))))
 j])]]) (5))
 (False))
 (False))
theorem te33 (test : Bool → Prop → Prop → Prop) (Kst : KS) (Kret : KR) (ng : Bool) (ap np mp : Nat) (tp : Nat → Int) : run test Tryd.env true (xN test) true 400 ⟨33, [.cd (mkFn Tryd.f33).body], argT 0 [.agg [.bool ng, .loose ⟨0, 1, ap, 0⟩ np]], [[], [(0, (false, .cols mp [.int .u32 tp]))]], 1⟩ (proj 1 [] Kst Kret) =
  Te33 test Kst Kret ng ap np mp tp := by kernel_rfl
attribute [local irreducible] Int.subNatNat in
theorem be33 (ng : Bool) (ap np mp : Nat) (tp : Nat → Int) (Kst : KS) (Kret : KR) (x : St33 ⊕ Rt33) (hS : HS 1 400 ((I33 ng ap np mp tp)) Kst x) (hR : HR 1 400 ((V33 ng ap np mp tp)) (fun r => [newL (1 + 1) ((N33 ng ap np mp tp) r) ++ [(0, (false, .cols mp [.int .u32 tp]))]]) Kret x) (h : p33 ng ap np mp tp = some x) : Te33 cond Kst Kret ng ap np mp tp := by
  unfold Te33
  unfold p33 at h
  refine bif_split h
   (fun c0 h => bif_split h
   (fun c1 h => bif_split h
   (fun c2 h => ret_at hR _ h (fun n => bif Nat.beq n 2 then 4 else n) rfl rfl rfl (rn_agg ⟨(rn_bool rfl), (rn_own (use_own rfl) rfl rfl), trivial⟩) rfl (entl_new (use_own rfl) rfl (Nat.le_of_eq rfl) (rcs_int (fun _ _ => rfl) rcs_nil) (entl_bor (use_lo rfl) rfl rfl entl_nil)))
   (fun c2 h => no_some h))
   (fun c1 h => no_some h))
   (fun c0 h => bif_split h
   (fun c1 h => bif_split h
   (fun c2 h => ret_at hR _ h (fun n => bif Nat.beq n 2 then 4 else n) rfl rfl rfl (rn_agg ⟨(rn_bool rfl), (rn_own (use_own rfl) rfl rfl), trivial⟩) rfl (entl_new (use_own rfl) rfl (Nat.le_of_eq rfl) (rcs_int (fun _ _ => rfl) rcs_nil) (entl_bor (use_lo rfl) rfl rfl entl_nil)))
   (fun c2 h => no_some h))
   (fun c1 h => no_some h))
theorem a33 (ng : Bool) (ap np mp : Nat) (tp : Nat → Int) {r : Rt33} (h : Goes ((q33 ng ap np mp tp)) ((p33 ng ap np mp tp)) r) : CallR Tryd.prog 33 [.agg [.bool ng, .loose ⟨0, 1, ap, 0⟩ np]] [[(0, (false, .cols mp [.int .u32 tp]))]] 1 ((V33 ng ap np mp tp) r) ((fun r => [newL (1 + 1) ((N33 ng ap np mp tp) r) ++ [(0, (false, .cols mp [.int .u32 tp]))]]) r) 400 ∧ ∃ F, Tryd.prog.funcs[33]? = some F ∧ F.body.isSome = true ∧ (F.name == "runtime.NumGoroutine") = false := by
  refine dec_calls (f := 33) (lo := 1) (hi := 400) (H := [[(0, (false, .cols mp [.int .u32 tp]))]]) (args := [.agg [.bool ng, .loose ⟨0, 1, ap, 0⟩ np]]) Tryd.envOk Tryd.mixed xN_ok ((I33 ng ap np mp tp)) ((V33 ng ap np mp tp)) (fun r => [newL (1 + 1) ((N33 ng ap np mp tp) r) ++ [(0, (false, .cols mp [.int .u32 tp]))]]) (fn := mkFn Tryd.f33) (ts := []) (n := 400) rfl (by decide) (by simp) (names_of rfl) ?_ ?_ ?_ h
  · intro s; exact s.elim
  · intro Kst Kret x hS hR h
    exact Holds.eq (te33 cond Kst Kret ng ap np mp tp) (be33 ng ap np mp tp Kst Kret x hS hR h)
  · intro Kst Kret x hS hR s h; exact s.elim
noncomputable def k33  : Con := ⟨33, [.agg [.plain (.bool), .list [.int .u32]]], fun (x : (Bool × (Nat × Nat × Nat × (Nat → Int) × Unit) × Unit) × Unit) => (fun (ng : Bool) (ap np mp : Nat) (tp : Nat → Int) => decide (ap + np ≤ mp ∧ S.u32B (fun j => tp (j + ap)) np = true)) x.1.1 x.1.2.1.1 x.1.2.1.2.1 x.1.2.1.2.2.1 x.1.2.1.2.2.2.1, fun (x : (Bool × (Nat × Nat × Nat × (Nat → Int) × Unit) × Unit) × Unit) => (fun (ng : Bool) (ap np mp : Nat) (tp : Nat → Int) => (V33 ng ap np mp tp) (S.sgB ng (S.desV (min np 20) (fun j => tp (j + ap))), S.grp (S.desV (min np 20) (fun j => tp (j + ap))))) x.1.1 x.1.2.1.1 x.1.2.1.2.1 x.1.2.1.2.2.1 x.1.2.1.2.2.2.1, fun (x : (Bool × (Nat × Nat × Nat × (Nat → Int) × Unit) × Unit) × Unit) => (fun (ng : Bool) (ap np mp : Nat) (tp : Nat → Int) => (N33 ng ap np mp tp) (S.sgB ng (S.desV (min np 20) (fun j => tp (j + ap))), S.grp (S.desV (min np 20) (fun j => tp (j + ap))))) x.1.1 x.1.2.1.1 x.1.2.1.2.1 x.1.2.1.2.2.1 x.1.2.1.2.2.2.1, fun _ _ => .dead⟩
theorem s33 (ng : Bool) (ap np mp : Nat) (tp : Nat → Int) (hp : ap + np ≤ mp ∧ S.u32B (fun j => tp (j + ap)) np = true) : Goes ((q33 ng ap np mp tp)) ((p33 ng ap np mp tp)) ((S.sgB ng (S.desV (min np 20) (fun j => tp (j + ap))), S.grp (S.desV (min np 20) (fun j => tp (j + ap))))) := by
  obtain ⟨hp1, hp2⟩ := hp
  have hb : ∀ j, j < np → 0 ≤ tp (j + ap) ∧ tp (j + ap) ≤ 4294967295 := fun j hj => of_decide_eq_true (all_iff.mp hp2 j hj)
  have hu : S.u32B (fun j => tp (j + ap)) (min np 20) = true := u32B_mk fun j hj => hb j (by omega)
  have e1 : (min (np : Int) 20).toNat = min np 20 := by omega
  have e2 : min (min np 20) 80 = min np 20 := by omega
  unfold p33
  simp only [e1, e2, Nat.zero_add, Nat.sub_zero, Int.toNat_zero, Option.getD_none, Int.toNat_natCast]
  have h2 : ap + min np 20 ≤ mp ∧ S.u32B (fun j => tp (j + ap)) (min np 20) = true := ⟨by omega, hu⟩
  simp only [decide_eq_true h2]
  cases ng
  · repeat' first
      | with_reducible exact goes_inr.mpr rfl
      | (refine goes_ok ?_ ?_; focus (first | with_reducible exact beq_self_eq_true _ | (simp only [Bool.and_eq_true, decide_eq_true_eq, and_self, eq_self]; done) | with_reducible exact decide_eq_true trivial | with_reducible exact decide_eq_true rfl | (simp only [eq_self, decide_true, Bool.and_self, Bool.and_true, Bool.true_and]; done) | (apply decide_eq_true; omega) | (rw [lim64]; apply decide_eq_true; omega) | (apply decide_eq_true; simp only [mkl_len, mkl_zero, List.length_nil, true_and, and_true, and_self, Nat.zero_add, Nat.add_zero, Nat.le_refl]; done) | (apply decide_eq_true; simp only [mkl_len, mkl_zero, List.length_nil, true_and, and_true, and_self, Nat.zero_add, Nat.add_zero, Nat.le_refl]; omega) | decide | (apply decide_eq_true; omega)))
      | (refine goes_no ?_ ?_; focus (first | with_reducible exact bne_self_eq_false _ | (apply decide_eq_false; omega) | decide))
  · repeat' first
      | with_reducible exact goes_inr.mpr rfl
      | (refine goes_ok ?_ ?_; focus (first | with_reducible exact beq_self_eq_true _ | (simp only [Bool.and_eq_true, decide_eq_true_eq, and_self, eq_self]; done) | with_reducible exact decide_eq_true trivial | with_reducible exact decide_eq_true rfl | (simp only [eq_self, decide_true, Bool.and_self, Bool.and_true, Bool.true_and]; done) | (apply decide_eq_true; omega) | (rw [lim64]; apply decide_eq_true; omega) | (apply decide_eq_true; simp only [mkl_len, mkl_zero, List.length_nil, true_and, and_true, and_self, Nat.zero_add, Nat.add_zero, Nat.le_refl]; done) | (apply decide_eq_true; simp only [mkl_len, mkl_zero, List.length_nil, true_and, and_true, and_self, Nat.zero_add, Nat.add_zero, Nat.le_refl]; omega) | decide | (apply decide_eq_true; omega)))
      | (refine goes_no ?_ ?_; focus (first | with_reducible exact bne_self_eq_false _ | (apply decide_eq_false; omega) | decide))
theorem k33_ok  : k33.ok Tryd.prog := by
  intro x hx
  obtain ⟨⟨ng, ⟨ap, np, mp, tp, _⟩, _⟩, _⟩ := x
  obtain ⟨h1, h2⟩ := a33 ng ap np mp tp (s33 ng ap np mp tp (of_dec hx rfl))
  exact ⟨⟨400, (by decide : 1 + 1 + 1 ≤ 400), h1⟩, h2⟩
noncomputable def xR (test : Bool → Prop → Prop → Prop) : Ext := consX test [k12, k22, k26, k20, k33]
theorem xR_ok  : ExtOk Tryd.prog (xR cond) := consX_ok ⟨k12_ok, k22_ok, k26_ok, k20_ok, k33_ok, trivial⟩
section
variable {n1 n2 : Bool} {n m : Nat} {t u : Nat → Int}
theorem samI_self  {L : List Int} {c : Bool} : S.samI c L.length (fun j => S.at' L j) c L.length (fun j => S.at' L j) = true := decide_eq_true ⟨rfl, rfl⟩
end
theorem abs_add  {v w : Int} {k : Nat} (hv : (v.natAbs : Int) < S.pw k) (hw : (w.natAbs : Int) < S.pw k) : ((v + w).natAbs : Int) < S.pw (k + 1) := by
  have := pw_pos (k := k)
  have e : S.pw (k + 1) = 1000000 * S.pw k := rfl
  omega
theorem abs_mul  {v w : Int} {k m : Nat} (hv : (v.natAbs : Int) < S.pw k) (hw : (w.natAbs : Int) < S.pw m) : ((v * w).natAbs : Int) < S.pw (k + m) := by
  rw [Int.natAbs_mul, Int.natCast_mul]
  exact (mul_lt ⟨by omega, hv⟩ ⟨by omega, hw⟩).2
theorem abs_addE  {v w : Int} {k l : Nat} (hv : (v.natAbs : Int) < S.pw k) (hw : (w.natAbs : Int) < S.pw k) (h : k + 1 = l) : ((v + w).natAbs : Int) < S.pw l := h ▸ abs_add hv hw
theorem abs_mulE  {v w : Int} {k m l : Nat} (hv : (v.natAbs : Int) < S.pw k) (hw : (w.natAbs : Int) < S.pw m) (h : k + m = l) : ((v * w).natAbs : Int) < S.pw l := h ▸ abs_mul hv hw
theorem abs_up  {v : Int} {k m : Nat} (hv : (v.natAbs : Int) < S.pw k) (h : k ≤ m) : (v.natAbs : Int) < S.pw m := Int.lt_of_lt_of_le hv (pw_mono h)
theorem okI_I  {v : Int} (hv : (v.natAbs : Int) < S.pw 80) : S.okI (decide (v < 0)) (S.grp (v.natAbs : Int)).length (fun j => S.at' (S.grp (v.natAbs : Int)) j) = true ∧ S.sv (decide (v < 0)) (S.val (S.grp (v.natAbs : Int)).length fun j => S.at' (S.grp (v.natAbs : Int)) j) = v := by
  have hl := grp_le hv
  constructor
  · rw [okI_iff]
    refine ⟨hl, grp_ok, ?_⟩
    by_cases h : v < 0
    · left; exact len_pos (by omega)
    · right; exact decide_eq_false h
  · rw [val_grpL (by omega)]
    unfold S.sv
    by_cases h : v < 0
    · rw [decide_eq_true h, cond_true]; omega
    · rw [decide_eq_false h, cond_false]; omega
theorem fit_I  {r : Int} (hr : (r.natAbs : Int) < S.pw 80) : S.fitI r = (decide (r < 0), 0, S.grp (r.natAbs : Int)) := by
  unfold S.fitI
  rw [if_neg (by have := grp_le hr; omega)]
theorem addS_I  {v w r : Int} (hv : (v.natAbs : Int) < S.pw 80) (hw : (w.natAbs : Int) < S.pw 80) (h : v + w = r) (hr : (r.natAbs : Int) < S.pw 80) : S.addS (decide (v < 0)) (S.grp (v.natAbs : Int)).length (fun j => S.at' (S.grp (v.natAbs : Int)) j) (decide (w < 0)) (S.grp (w.natAbs : Int)).length (fun j => S.at' (S.grp (w.natAbs : Int)) j) = (decide (r < 0), 0, S.grp (r.natAbs : Int)) := by
  unfold S.addS
  rw [if_pos ⟨(okI_I hv).1, (okI_I hw).1⟩, (okI_I hv).2, (okI_I hw).2, h, fit_I hr]
theorem mulI_I  {v w r : Int} (hv : (v.natAbs : Int) < S.pw 80) (hw : (w.natAbs : Int) < S.pw 80) (h : v * w = r) (hr : (r.natAbs : Int) < S.pw 80) : S.mulI (decide (v < 0)) (S.grp (v.natAbs : Int)).length (fun j => S.at' (S.grp (v.natAbs : Int)) j) (decide (w < 0)) (S.grp (w.natAbs : Int)).length (fun j => S.at' (S.grp (w.natAbs : Int)) j) = (decide (r < 0), 0, S.grp (r.natAbs : Int)) := by
  unfold S.mulI
  rw [if_pos ⟨(okI_I hv).1, (okI_I hw).1⟩, (okI_I hv).2, (okI_I hw).2, h, fit_I hr]
theorem des_I  {ng : Bool} {V : Int} (h : 0 ≤ V) : S.sgB ng V = decide (S.sv ng V < 0) ∧ S.grp V = S.grp ((S.sv ng V).natAbs : Int) := by
  have e := big_of (neg := ng) h
  unfold S.bigI at e
  simp only [Prod.mk.injEq] at e
  exact ⟨e.1.symm, e.2.symm⟩
theorem sv_abs  {ng : Bool} {V : Int} : (S.sv ng V).natAbs = V.natAbs := by
  cases ng <;> simp [S.sv]
theorem zero8  : ∀ i, i < 8 → S.at' [(0 : Int), 0, 0, 0, 0, 0, 0, 0] i = 0 := by decide
theorem len_I  {v : Int} {k : Nat} (hv : (v.natAbs : Int) < S.pw k) (h : k ≤ 80) : (S.grp (v.natAbs : Int)).length ≤ 80 := Nat.le_trans (grp_le hv) h
inductive St7 where
  | h0 (x0 : Int) (x1 : List Int) (x2 : List Int) (x3 : List Int) (x4 : List Int) (x5 : List Int) (x6 : List Int) (x7 : List Int)
abbrev Rt7  := Bool
noncomputable def V7 (n1 : Bool) (ap np mp : Nat) (tp : Nat → Int) (n2 : Bool) (aq nq mq : Nat) (tq : Nat → Int) (n3 : Bool) (ar nr mr : Nat) (tr : Nat → Int) (r : Rt7) : PV := PV.bool r
noncomputable def N7 (n1 : Bool) (ap np mp : Nat) (tp : Nat → Int) (n2 : Bool) (aq nq mq : Nat) (tq : Nat → Int) (n3 : Bool) (ar nr mr : Nat) (tr : Nat → Int) (r : Rt7) : List Blk := []
noncomputable def I7 (n1 : Bool) (ap np mp : Nat) (tp : Nat → Int) (n2 : Bool) (aq nq mq : Nat) (tq : Nat → Int) (n3 : Bool) (ar nr mr : Nat) (tr : Nat → Int) : St7 → Hd
  | .h0 x0 x1 x2 x3 x4 x5 x6 x7 => ⟨hd Tryd.f7 0, [PV.ptr (PA.mk (3) (0) (0) (0)),
 PV.ptr (PA.mk (5) (0) (0) (0)),
 PV.ptr (PA.mk (7) (0) (0) (0)),
 PV.ptr (PA.mk (9) (0) (0) (0)),
 PV.ptr (PA.mk (11) (0) (0) (0)),
 PV.ptr (PA.mk (13) (0) (0) (0)),
 PV.own (15) (1) (List.length x7), PV.int IntKind.i64 (8 : Int),
 PV.int IntKind.i64 x0], [[(3, (true, Blk.cells
 [PV.bool
 (Prod.fst
 (S.mulI (S.sgB n1 (S.desV (Min.min np (20)) fun j => tp (j + ap)))
 (List.length (S.grp (S.desV (Min.min np (20)) fun j => tp (j + ap))))
 (fun j =>
 S.at' (S.grp (S.desV (Min.min np (20)) fun j => tp (j + ap))) j)
 (S.sgB n2 (S.desV (Min.min nq (20)) fun j => tq (j + aq)))
 (List.length (S.grp (S.desV (Min.min nq (20)) fun j => tq (j + aq))))
 fun j =>
 S.at' (S.grp (S.desV (Min.min nq (20)) fun j => tq (j + aq))) j)),
 PV.own (4) (1) (List.length x1)])), (4, (true, Blk.cols (List.length x1) [Col.int IntKind.i64 fun j => S.at' x1 j])), (5, (true, Blk.cells
 [PV.bool
 (Prod.fst
 (S.mulI (S.sgB n2 (S.desV (Min.min nq (20)) fun j => tq (j + aq)))
 (List.length (S.grp (S.desV (Min.min nq (20)) fun j => tq (j + aq))))
 (fun j =>
 S.at' (S.grp (S.desV (Min.min nq (20)) fun j => tq (j + aq))) j)
 (S.sgB n1 (S.desV (Min.min np (20)) fun j => tp (j + ap)))
 (List.length (S.grp (S.desV (Min.min np (20)) fun j => tp (j + ap))))
 fun j =>
 S.at' (S.grp (S.desV (Min.min np (20)) fun j => tp (j + ap))) j)),
 PV.own (6) (1) (List.length x2)])), (6, (true, Blk.cols (List.length x2) [Col.int IntKind.i64 fun j => S.at' x2 j])), (7, (true, Blk.cells
 [PV.bool
 (Prod.fst
 (S.mulI (S.sgB n1 (S.desV (Min.min np (20)) fun j => tp (j + ap)))
 (List.length (S.grp (S.desV (Min.min np (20)) fun j => tp (j + ap))))
 (fun j =>
 S.at' (S.grp (S.desV (Min.min np (20)) fun j => tp (j + ap))) j)
 (Prod.fst
 (S.addS (S.sgB n2 (S.desV (Min.min nq (20)) fun j => tq (j + aq)))
 (List.length (S.grp (S.desV (Min.min nq (20)) fun j => tq (j + aq))))
 (fun j =>
 S.at' (S.grp (S.desV (Min.min nq (20)) fun j => tq (j + aq))) j)
 (S.sgB n3 (S.desV (Min.min nr (20)) fun j => tr (j + ar)))
 (List.length (S.grp (S.desV (Min.min nr (20)) fun j => tr (j + ar))))
 fun j =>
 S.at' (S.grp (S.desV (Min.min nr (20)) fun j => tr (j + ar))) j))
 (List.length
 (Prod.snd
 (Prod.snd
 (S.addS (S.sgB n2 (S.desV (Min.min nq (20)) fun j => tq (j + aq)))
 (List.length (S.grp (S.desV (Min.min nq (20)) fun j => tq (j + aq))))
 (fun j =>
 S.at' (S.grp (S.desV (Min.min nq (20)) fun j => tq (j + aq))) j)
 (S.sgB n3 (S.desV (Min.min nr (20)) fun j => tr (j + ar)))
 (List.length (S.grp (S.desV (Min.min nr (20)) fun j => tr (j + ar))))
 fun j =>
 S.at' (S.grp (S.desV (Min.min nr (20)) fun j => tr (j + ar))) j))))
 fun j =>
 S.at'
 (Prod.snd
 (Prod.snd
 (S.addS (S.sgB n2 (S.desV (Min.min nq (20)) fun j => tq (j + aq)))
 (List.length (S.grp (S.desV (Min.min nq (20)) fun j => tq (j + aq))))
 (fun j =>
 S.at' (S.grp (S.desV (Min.min nq (20)) fun j => tq (j + aq))) j)
 (S.sgB n3 (S.desV (Min.min nr (20)) fun j => tr (j + ar)))
 (List.length (S.grp (S.desV (Min.min nr (20)) fun j => tr (j + ar))))
 fun j =>
 S.at' (S.grp (S.desV (Min.min nr (20)) fun j => tr (j + ar))) j)))
 j)),
 PV.own (8) (1) (List.length x3)])), (8, (true, Blk.cols (List.length x3) [Col.int IntKind.i64 fun j => S.at' x3 j])), (9, (true, Blk.cells
 [PV.bool
 (Prod.fst
 (S.addS
 (Prod.fst
 (S.mulI (S.sgB n1 (S.desV (Min.min np (20)) fun j => tp (j + ap)))
 (List.length (S.grp (S.desV (Min.min np (20)) fun j => tp (j + ap))))
 (fun j =>
 S.at' (S.grp (S.desV (Min.min np (20)) fun j => tp (j + ap))) j)
 (S.sgB n2 (S.desV (Min.min nq (20)) fun j => tq (j + aq)))
 (List.length (S.grp (S.desV (Min.min nq (20)) fun j => tq (j + aq))))
 fun j =>
 S.at' (S.grp (S.desV (Min.min nq (20)) fun j => tq (j + aq))) j))
 (List.length
 (Prod.snd
 (Prod.snd
 (S.mulI (S.sgB n1 (S.desV (Min.min np (20)) fun j => tp (j + ap)))
 (List.length (S.grp (S.desV (Min.min np (20)) fun j => tp (j + ap))))
 (fun j =>
 S.at' (S.grp (S.desV (Min.min np (20)) fun j => tp (j + ap))) j)
 (S.sgB n2 (S.desV (Min.min nq (20)) fun j => tq (j + aq)))
 (List.length (S.grp (S.desV (Min.min nq (20)) fun j => tq (j + aq))))
 fun j =>
 S.at' (S.grp (S.desV (Min.min nq (20)) fun j => tq (j + aq))) j))))
 (fun j =>
 S.at'
 (Prod.snd
 (Prod.snd
 (S.mulI (S.sgB n1 (S.desV (Min.min np (20)) fun j => tp (j + ap)))
 (List.length (S.grp (S.desV (Min.min np (20)) fun j => tp (j + ap))))
 (fun j =>
 S.at' (S.grp (S.desV (Min.min np (20)) fun j => tp (j + ap))) j)
 (S.sgB n2 (S.desV (Min.min nq (20)) fun j => tq (j + aq)))
 (List.length (S.grp (S.desV (Min.min nq (20)) fun j => tq (j + aq))))
 fun j =>
 S.at' (S.grp (S.desV (Min.min nq (20)) fun j => tq (j + aq))) j)))
 j)
 (Prod.fst
 (S.mulI (S.sgB n1 (S.desV (Min.min np (20)) fun j => tp (j + ap)))
 (List.length (S.grp (S.desV (Min.min np (20)) fun j => tp (j + ap))))
 (fun j =>
 S.at' (S.grp (S.desV (Min.min np (20)) fun j => tp (j + ap))) j)
 (S.sgB n3 (S.desV (Min.min nr (20)) fun j => tr (j + ar)))
 (List.length (S.grp (S.desV (Min.min nr (20)) fun j => tr (j + ar))))
 fun j =>
 S.at' (S.grp (S.desV (Min.min nr (20)) fun j => tr (j + ar))) j))
 (List.length
 (Prod.snd
 (Prod.snd
 (S.mulI (S.sgB n1 (S.desV (Min.min np (20)) fun j => tp (j + ap)))
 (List.length (S.grp (S.desV (Min.min np (20)) fun j => tp (j + ap))))
 (fun j =>
 S.at' (S.grp (S.desV (Min.min np (20)) fun j => tp (j + ap))) j)
 (S.sgB n3 (S.desV (Min.min nr (20)) fun j => tr (j + ar)))
 (List.length (S.grp (S.desV (Min.min nr (20)) fun j => tr (j + ar))))
 fun j =>
 S.at' (S.grp (S.desV (Min.min nr (20)) fun j => tr (j + ar))) j))))
 fun j =>
 S.at'
 (Prod.snd
 (Prod.snd
 (S.mulI (S.sgB n1 (S.desV (Min.min np (20)) fun j => tp (j + ap)))
 (List.length (S.grp (S.desV (Min.min np (20)) fun j => tp (j + ap))))
 (fun j =>
 S.at' (S.grp (S.desV (Min.min np (20)) fun j => tp (j + ap))) j)
 (S.sgB n3 (S.desV (Min.min nr (20)) fun j => tr (j + ar)))
 (List.length (S.grp (S.desV (Min.min nr (20)) fun j => tr (j + ar))))
 fun j =>
 S.at' (S.grp (S.desV (Min.min nr (20)) fun j => tr (j + ar))) j)))
 j)),
 PV.own (10) (1) (List.length x4)])), (10, (true, Blk.cols (List.length x4) [Col.int IntKind.i64 fun j => S.at' x4 j])), (11, (true, Blk.cells
 [PV.bool
 (Prod.fst
 (S.mulI
 (Prod.fst
 (S.mulI (S.sgB n1 (S.desV (Min.min np (20)) fun j => tp (j + ap)))
 (List.length (S.grp (S.desV (Min.min np (20)) fun j => tp (j + ap))))
 (fun j =>
 S.at' (S.grp (S.desV (Min.min np (20)) fun j => tp (j + ap))) j)
 (S.sgB n2 (S.desV (Min.min nq (20)) fun j => tq (j + aq)))
 (List.length (S.grp (S.desV (Min.min nq (20)) fun j => tq (j + aq))))
 fun j =>
 S.at' (S.grp (S.desV (Min.min nq (20)) fun j => tq (j + aq))) j))
 (List.length
 (Prod.snd
 (Prod.snd
 (S.mulI (S.sgB n1 (S.desV (Min.min np (20)) fun j => tp (j + ap)))
 (List.length (S.grp (S.desV (Min.min np (20)) fun j => tp (j + ap))))
 (fun j =>
 S.at' (S.grp (S.desV (Min.min np (20)) fun j => tp (j + ap))) j)
 (S.sgB n2 (S.desV (Min.min nq (20)) fun j => tq (j + aq)))
 (List.length (S.grp (S.desV (Min.min nq (20)) fun j => tq (j + aq))))
 fun j =>
 S.at' (S.grp (S.desV (Min.min nq (20)) fun j => tq (j + aq))) j))))
 (fun j =>
 S.at'
 (Prod.snd
 (Prod.snd
 (S.mulI (S.sgB n1 (S.desV (Min.min np (20)) fun j => tp (j + ap)))
 (List.length (S.grp (S.desV (Min.min np (20)) fun j => tp (j + ap))))
 (fun j =>
 S.at' (S.grp (S.desV (Min.min np (20)) fun j => tp (j + ap))) j)
 (S.sgB n2 (S.desV (Min.min nq (20)) fun j => tq (j + aq)))
 (List.length (S.grp (S.desV (Min.min nq (20)) fun j => tq (j + aq))))
 fun j =>
 S.at' (S.grp (S.desV (Min.min nq (20)) fun j => tq (j + aq))) j)))
 j)
 (S.sgB n3 (S.desV (Min.min nr (20)) fun j => tr (j + ar)))
 (List.length (S.grp (S.desV (Min.min nr (20)) fun j => tr (j + ar))))
 fun j =>
 S.at' (S.grp (S.desV (Min.min nr (20)) fun j => tr (j + ar))) j)),
 PV.own (12) (1) (List.length x5)])), (12, (true, Blk.cols (List.length x5) [Col.int IntKind.i64 fun j => S.at' x5 j])), (13, (true, Blk.cells
 [PV.bool
 (Prod.fst
 (S.mulI (S.sgB n1 (S.desV (Min.min np (20)) fun j => tp (j + ap)))
 (List.length (S.grp (S.desV (Min.min np (20)) fun j => tp (j + ap))))
 (fun j =>
 S.at' (S.grp (S.desV (Min.min np (20)) fun j => tp (j + ap))) j)
 (Prod.fst
 (S.mulI (S.sgB n2 (S.desV (Min.min nq (20)) fun j => tq (j + aq)))
 (List.length (S.grp (S.desV (Min.min nq (20)) fun j => tq (j + aq))))
 (fun j =>
 S.at' (S.grp (S.desV (Min.min nq (20)) fun j => tq (j + aq))) j)
 (S.sgB n3 (S.desV (Min.min nr (20)) fun j => tr (j + ar)))
 (List.length (S.grp (S.desV (Min.min nr (20)) fun j => tr (j + ar))))
 fun j =>
 S.at' (S.grp (S.desV (Min.min nr (20)) fun j => tr (j + ar))) j))
 (List.length
 (Prod.snd
 (Prod.snd
 (S.mulI (S.sgB n2 (S.desV (Min.min nq (20)) fun j => tq (j + aq)))
 (List.length (S.grp (S.desV (Min.min nq (20)) fun j => tq (j + aq))))
 (fun j =>
 S.at' (S.grp (S.desV (Min.min nq (20)) fun j => tq (j + aq))) j)
 (S.sgB n3 (S.desV (Min.min nr (20)) fun j => tr (j + ar)))
 (List.length (S.grp (S.desV (Min.min nr (20)) fun j => tr (j + ar))))
 fun j =>
 S.at' (S.grp (S.desV (Min.min nr (20)) fun j => tr (j + ar))) j))))
 fun j =>
 S.at'
 (Prod.snd
 (Prod.snd
 (S.mulI (S.sgB n2 (S.desV (Min.min nq (20)) fun j => tq (j + aq)))
 (List.length (S.grp (S.desV (Min.min nq (20)) fun j => tq (j + aq))))
 (fun j =>
 S.at' (S.grp (S.desV (Min.min nq (20)) fun j => tq (j + aq))) j)
 (S.sgB n3 (S.desV (Min.min nr (20)) fun j => tr (j + ar)))
 (List.length (S.grp (S.desV (Min.min nr (20)) fun j => tr (j + ar))))
 fun j =>
 S.at' (S.grp (S.desV (Min.min nr (20)) fun j => tr (j + ar))) j)))
 j)),
 PV.own (14) (1) (List.length x6)])), (14, (true, Blk.cols (List.length x6) [Col.int IntKind.i64 fun j => S.at' x6 j])), (15, (true, Blk.cols (List.length x7) [Col.int IntKind.i64 fun j => S.at' x7 j]))], [(0, (false, .cols mp [.int .u32 tp])), (1, (false, .cols mq [.int .u32 tq])), (2, (false, .cols mr [.int .u32 tr]))]], 16⟩
noncomputable def q7 (n1 : Bool) (ap np mp : Nat) (tp : Nat → Int) (n2 : Bool) (aq nq mq : Nat) (tq : Nat → Int) (n3 : Bool) (ar nr mr : Nat) (tr : Nat → Int) : St7 → Option (St7 ⊕ Rt7)
  | .h0 x0 x1 x2 x3 x4 x5 x6 x7 => bif (decide (x0 < (8 : Int)))
 then (bif (decide ((0 : Int) ≤ x0 ∧ x0 < (↑(List.length x7) : Int)))
 then (bif (decide (Int.toNat x0 < List.length x7))
 then (bif (S.at' x7 (Int.toNat x0) != (0 : Int))
 then (some (.inr (false)))
 else (bif (lim IntKind.i64 (x0 + (1 : Int)))
 then (some (.inl (.h0 (x0 + (1 : Int)) (x1) (x2) (x3) (x4) (x5) (x6) (x7))))
 else (none)))
 else (none))
 else (none))
 else (bif (decide
 ((0 + List.length x1 ≤ List.length x1 ∧ List.length x1 ≤ 1000000) ∧
 0 + List.length x2 ≤ List.length x2 ∧ List.length x2 ≤ 1000000))
 then (bif (S.samI
 (Prod.fst
 (S.mulI (S.sgB n1 (S.desV (Min.min np (20)) fun j => tp (j + ap)))
 (List.length (S.grp (S.desV (Min.min np (20)) fun j => tp (j + ap))))
 (fun j =>
 S.at' (S.grp (S.desV (Min.min np (20)) fun j => tp (j + ap))) j)
 (S.sgB n2 (S.desV (Min.min nq (20)) fun j => tq (j + aq)))
 (List.length (S.grp (S.desV (Min.min nq (20)) fun j => tq (j + aq)))) fun j =>
 S.at' (S.grp (S.desV (Min.min nq (20)) fun j => tq (j + aq))) j))
 (List.length x1) (fun j => S.at' x1 j)
 (Prod.fst
 (S.mulI (S.sgB n2 (S.desV (Min.min nq (20)) fun j => tq (j + aq)))
 (List.length (S.grp (S.desV (Min.min nq (20)) fun j => tq (j + aq))))
 (fun j =>
 S.at' (S.grp (S.desV (Min.min nq (20)) fun j => tq (j + aq))) j)
 (S.sgB n1 (S.desV (Min.min np (20)) fun j => tp (j + ap)))
 (List.length (S.grp (S.desV (Min.min np (20)) fun j => tp (j + ap)))) fun j =>
 S.at' (S.grp (S.desV (Min.min np (20)) fun j => tp (j + ap))) j))
 (List.length x2) fun j => S.at' x2 j)
 then (bif (decide
 ((0 + List.length x3 ≤ List.length x3 ∧ List.length x3 ≤ 1000000) ∧
 0 + List.length x4 ≤ List.length x4 ∧ List.length x4 ≤ 1000000))
 then (bif (S.samI
 (Prod.fst
 (S.mulI (S.sgB n1 (S.desV (Min.min np (20)) fun j => tp (j + ap)))
 (List.length (S.grp (S.desV (Min.min np (20)) fun j => tp (j + ap))))
 (fun j =>
 S.at' (S.grp (S.desV (Min.min np (20)) fun j => tp (j + ap))) j)
 (Prod.fst
 (S.addS (S.sgB n2 (S.desV (Min.min nq (20)) fun j => tq (j + aq)))
 (List.length (S.grp (S.desV (Min.min nq (20)) fun j => tq (j + aq))))
 (fun j =>
 S.at' (S.grp (S.desV (Min.min nq (20)) fun j => tq (j + aq))) j)
 (S.sgB n3 (S.desV (Min.min nr (20)) fun j => tr (j + ar)))
 (List.length (S.grp (S.desV (Min.min nr (20)) fun j => tr (j + ar))))
 fun j =>
 S.at' (S.grp (S.desV (Min.min nr (20)) fun j => tr (j + ar))) j))
 (List.length
 (Prod.snd
 (Prod.snd
 (S.addS (S.sgB n2 (S.desV (Min.min nq (20)) fun j => tq (j + aq)))
 (List.length (S.grp (S.desV (Min.min nq (20)) fun j => tq (j + aq))))
 (fun j =>
 S.at' (S.grp (S.desV (Min.min nq (20)) fun j => tq (j + aq))) j)
 (S.sgB n3 (S.desV (Min.min nr (20)) fun j => tr (j + ar)))
 (List.length (S.grp (S.desV (Min.min nr (20)) fun j => tr (j + ar))))
 fun j =>
 S.at' (S.grp (S.desV (Min.min nr (20)) fun j => tr (j + ar))) j))))
 fun j =>
 S.at'
 (Prod.snd
 (Prod.snd
 (S.addS (S.sgB n2 (S.desV (Min.min nq (20)) fun j => tq (j + aq)))
 (List.length (S.grp (S.desV (Min.min nq (20)) fun j => tq (j + aq))))
 (fun j =>
 S.at' (S.grp (S.desV (Min.min nq (20)) fun j => tq (j + aq))) j)
 (S.sgB n3 (S.desV (Min.min nr (20)) fun j => tr (j + ar)))
 (List.length (S.grp (S.desV (Min.min nr (20)) fun j => tr (j + ar))))
 fun j =>
 S.at' (S.grp (S.desV (Min.min nr (20)) fun j => tr (j + ar))) j)))
 j))
 (List.length x3) (fun j => S.at' x3 j)
 (Prod.fst
 (S.addS
 (Prod.fst
 (S.mulI (S.sgB n1 (S.desV (Min.min np (20)) fun j => tp (j + ap)))
 (List.length (S.grp (S.desV (Min.min np (20)) fun j => tp (j + ap))))
 (fun j =>
 S.at' (S.grp (S.desV (Min.min np (20)) fun j => tp (j + ap))) j)
 (S.sgB n2 (S.desV (Min.min nq (20)) fun j => tq (j + aq)))
 (List.length (S.grp (S.desV (Min.min nq (20)) fun j => tq (j + aq))))
 fun j =>
 S.at' (S.grp (S.desV (Min.min nq (20)) fun j => tq (j + aq))) j))
 (List.length
 (Prod.snd
 (Prod.snd
 (S.mulI (S.sgB n1 (S.desV (Min.min np (20)) fun j => tp (j + ap)))
 (List.length (S.grp (S.desV (Min.min np (20)) fun j => tp (j + ap))))
 (fun j =>
 S.at' (S.grp (S.desV (Min.min np (20)) fun j => tp (j + ap))) j)
 (S.sgB n2 (S.desV (Min.min nq (20)) fun j => tq (j + aq)))
 (List.length (S.grp (S.desV (Min.min nq (20)) fun j => tq (j + aq))))
 fun j =>
 S.at' (S.grp (S.desV (Min.min nq (20)) fun j => tq (j + aq))) j))))
 (fun j =>
 S.at'
 (Prod.snd
 (Prod.snd
 (S.mulI (S.sgB n1 (S.desV (Min.min np (20)) fun j => tp (j + ap)))
 (List.length (S.grp (S.desV (Min.min np (20)) fun j => tp (j + ap))))
 (fun j =>
 S.at' (S.grp (S.desV (Min.min np (20)) fun j => tp (j + ap))) j)
 (S.sgB n2 (S.desV (Min.min nq (20)) fun j => tq (j + aq)))
 (List.length (S.grp (S.desV (Min.min nq (20)) fun j => tq (j + aq))))
 fun j =>
 S.at' (S.grp (S.desV (Min.min nq (20)) fun j => tq (j + aq))) j)))
 j)
 (Prod.fst
 (S.mulI (S.sgB n1 (S.desV (Min.min np (20)) fun j => tp (j + ap)))
 (List.length (S.grp (S.desV (Min.min np (20)) fun j => tp (j + ap))))
 (fun j =>
 S.at' (S.grp (S.desV (Min.min np (20)) fun j => tp (j + ap))) j)
 (S.sgB n3 (S.desV (Min.min nr (20)) fun j => tr (j + ar)))
 (List.length (S.grp (S.desV (Min.min nr (20)) fun j => tr (j + ar))))
 fun j =>
 S.at' (S.grp (S.desV (Min.min nr (20)) fun j => tr (j + ar))) j))
 (List.length
 (Prod.snd
 (Prod.snd
 (S.mulI (S.sgB n1 (S.desV (Min.min np (20)) fun j => tp (j + ap)))
 (List.length (S.grp (S.desV (Min.min np (20)) fun j => tp (j + ap))))
 (fun j =>
 S.at' (S.grp (S.desV (Min.min np (20)) fun j => tp (j + ap))) j)
 (S.sgB n3 (S.desV (Min.min nr (20)) fun j => tr (j + ar)))
 (List.length (S.grp (S.desV (Min.min nr (20)) fun j => tr (j + ar))))
 fun j =>
 S.at' (S.grp (S.desV (Min.min nr (20)) fun j => tr (j + ar))) j))))
 fun j =>
 S.at'
 (Prod.snd
 (Prod.snd
 (S.mulI (S.sgB n1 (S.desV (Min.min np (20)) fun j => tp (j + ap)))
 (List.length (S.grp (S.desV (Min.min np (20)) fun j => tp (j + ap))))
 (fun j =>
 S.at' (S.grp (S.desV (Min.min np (20)) fun j => tp (j + ap))) j)
 (S.sgB n3 (S.desV (Min.min nr (20)) fun j => tr (j + ar)))
 (List.length (S.grp (S.desV (Min.min nr (20)) fun j => tr (j + ar))))
 fun j =>
 S.at' (S.grp (S.desV (Min.min nr (20)) fun j => tr (j + ar))) j)))
 j))
 (List.length x4) fun j => S.at' x4 j)
 then (bif (decide
 ((0 + List.length x5 ≤ List.length x5 ∧ List.length x5 ≤ 1000000) ∧
 0 + List.length x6 ≤ List.length x6 ∧ List.length x6 ≤ 1000000))
 then (bif (S.samI
 (Prod.fst
 (S.mulI
 (Prod.fst
 (S.mulI (S.sgB n1 (S.desV (Min.min np (20)) fun j => tp (j + ap)))
 (List.length (S.grp (S.desV (Min.min np (20)) fun j => tp (j + ap))))
 (fun j =>
 S.at' (S.grp (S.desV (Min.min np (20)) fun j => tp (j + ap))) j)
 (S.sgB n2 (S.desV (Min.min nq (20)) fun j => tq (j + aq)))
 (List.length (S.grp (S.desV (Min.min nq (20)) fun j => tq (j + aq))))
 fun j =>
 S.at' (S.grp (S.desV (Min.min nq (20)) fun j => tq (j + aq))) j))
 (List.length
 (Prod.snd
 (Prod.snd
 (S.mulI (S.sgB n1 (S.desV (Min.min np (20)) fun j => tp (j + ap)))
 (List.length (S.grp (S.desV (Min.min np (20)) fun j => tp (j + ap))))
 (fun j =>
 S.at' (S.grp (S.desV (Min.min np (20)) fun j => tp (j + ap))) j)
 (S.sgB n2 (S.desV (Min.min nq (20)) fun j => tq (j + aq)))
 (List.length (S.grp (S.desV (Min.min nq (20)) fun j => tq (j + aq))))
 fun j =>
 S.at' (S.grp (S.desV (Min.min nq (20)) fun j => tq (j + aq))) j))))
 (fun j =>
 S.at'
 (Prod.snd
 (Prod.snd
 (S.mulI (S.sgB n1 (S.desV (Min.min np (20)) fun j => tp (j + ap)))
 (List.length (S.grp (S.desV (Min.min np (20)) fun j => tp (j + ap))))
 (fun j =>
 S.at' (S.grp (S.desV (Min.min np (20)) fun j => tp (j + ap))) j)
 (S.sgB n2 (S.desV (Min.min nq (20)) fun j => tq (j + aq)))
 (List.length (S.grp (S.desV (Min.min nq (20)) fun j => tq (j + aq))))
 fun j =>
 S.at' (S.grp (S.desV (Min.min nq (20)) fun j => tq (j + aq))) j)))
 j)
 (S.sgB n3 (S.desV (Min.min nr (20)) fun j => tr (j + ar)))
 (List.length (S.grp (S.desV (Min.min nr (20)) fun j => tr (j + ar)))) fun j =>
 S.at' (S.grp (S.desV (Min.min nr (20)) fun j => tr (j + ar))) j))
 (List.length x5) (fun j => S.at' x5 j)
 (Prod.fst
 (S.mulI (S.sgB n1 (S.desV (Min.min np (20)) fun j => tp (j + ap)))
 (List.length (S.grp (S.desV (Min.min np (20)) fun j => tp (j + ap))))
 (fun j =>
 S.at' (S.grp (S.desV (Min.min np (20)) fun j => tp (j + ap))) j)
 (Prod.fst
 (S.mulI (S.sgB n2 (S.desV (Min.min nq (20)) fun j => tq (j + aq)))
 (List.length (S.grp (S.desV (Min.min nq (20)) fun j => tq (j + aq))))
 (fun j =>
 S.at' (S.grp (S.desV (Min.min nq (20)) fun j => tq (j + aq))) j)
 (S.sgB n3 (S.desV (Min.min nr (20)) fun j => tr (j + ar)))
 (List.length (S.grp (S.desV (Min.min nr (20)) fun j => tr (j + ar))))
 fun j =>
 S.at' (S.grp (S.desV (Min.min nr (20)) fun j => tr (j + ar))) j))
 (List.length
 (Prod.snd
 (Prod.snd
 (S.mulI (S.sgB n2 (S.desV (Min.min nq (20)) fun j => tq (j + aq)))
 (List.length (S.grp (S.desV (Min.min nq (20)) fun j => tq (j + aq))))
 (fun j =>
 S.at' (S.grp (S.desV (Min.min nq (20)) fun j => tq (j + aq))) j)
 (S.sgB n3 (S.desV (Min.min nr (20)) fun j => tr (j + ar)))
 (List.length (S.grp (S.desV (Min.min nr (20)) fun j => tr (j + ar))))
 fun j =>
 S.at' (S.grp (S.desV (Min.min nr (20)) fun j => tr (j + ar))) j))))
 fun j =>
 S.at'
 (Prod.snd
 (Prod.snd
 (S.mulI (S.sgB n2 (S.desV (Min.min nq (20)) fun j => tq (j + aq)))
 (List.length (S.grp (S.desV (Min.min nq (20)) fun j => tq (j + aq))))
 (fun j =>
 S.at' (S.grp (S.desV (Min.min nq (20)) fun j => tq (j + aq))) j)
 (S.sgB n3 (S.desV (Min.min nr (20)) fun j => tr (j + ar)))
 (List.length (S.grp (S.desV (Min.min nr (20)) fun j => tr (j + ar))))
 fun j =>
 S.at' (S.grp (S.desV (Min.min nr (20)) fun j => tr (j + ar))) j)))
 j))
 (List.length x6) fun j => S.at' x6 j)
 then (some (.inr (true)))
 else (some (.inr (false))))
 else (none))
 else (some (.inr (false))))
 else (none))
 else (some (.inr (false))))
 else (none))
noncomputable def p7 (n1 : Bool) (ap np mp : Nat) (tp : Nat → Int) (n2 : Bool) (aq nq mq : Nat) (tq : Nat → Int) (n3 : Bool) (ar nr mr : Nat) (tr : Nat → Int) : Option (St7 ⊕ Rt7) := bif (decide (ap + np ≤ mp ∧ S.u32B (fun j => tp (j + ap)) np = true))
 then (bif (decide (aq + nq ≤ mq ∧ S.u32B (fun j => tq (j + aq)) nq = true))
 then (bif (decide (ar + nr ≤ mr ∧ S.u32B (fun j => tr (j + ar)) nr = true))
 then (bif (decide
 ((0 + List.length (S.grp (S.desV (Min.min np (20)) fun j => tp (j + ap))) ≤
 List.length (S.grp (S.desV (Min.min np (20)) fun j => tp (j + ap))) ∧
 List.length (S.grp (S.desV (Min.min np (20)) fun j => tp (j + ap))) ≤
 1000000) ∧
 0 + List.length (S.grp (S.desV (Min.min nq (20)) fun j => tq (j + aq))) ≤
 List.length (S.grp (S.desV (Min.min nq (20)) fun j => tq (j + aq))) ∧
 List.length (S.grp (S.desV (Min.min nq (20)) fun j => tq (j + aq))) ≤ 1000000))
 then (bif (decide
 ((0 + List.length (S.grp (S.desV (Min.min nq (20)) fun j => tq (j + aq))) ≤
 List.length (S.grp (S.desV (Min.min nq (20)) fun j => tq (j + aq))) ∧
 List.length (S.grp (S.desV (Min.min nq (20)) fun j => tq (j + aq))) ≤
 1000000) ∧
 0 + List.length (S.grp (S.desV (Min.min np (20)) fun j => tp (j + ap))) ≤
 List.length (S.grp (S.desV (Min.min np (20)) fun j => tp (j + ap))) ∧
 List.length (S.grp (S.desV (Min.min np (20)) fun j => tp (j + ap))) ≤ 1000000))
 then (bif (decide
 ((0 + List.length (S.grp (S.desV (Min.min nq (20)) fun j => tq (j + aq))) ≤
 List.length (S.grp (S.desV (Min.min nq (20)) fun j => tq (j + aq))) ∧
 List.length (S.grp (S.desV (Min.min nq (20)) fun j => tq (j + aq))) ≤
 1000000) ∧
 0 + List.length (S.grp (S.desV (Min.min nr (20)) fun j => tr (j + ar))) ≤
 List.length (S.grp (S.desV (Min.min nr (20)) fun j => tr (j + ar))) ∧
 List.length (S.grp (S.desV (Min.min nr (20)) fun j => tr (j + ar))) ≤ 1000000))
 then (bif (decide
 ((0 +
 List.length
 (Prod.snd
 (Prod.snd
 (S.addS (S.sgB n1 (S.desV (Min.min np (20)) fun j => tp (j + ap)))
 (List.length (S.grp (S.desV (Min.min np (20)) fun j => tp (j + ap))))
 (fun j =>
 S.at' (S.grp (S.desV (Min.min np (20)) fun j => tp (j + ap))) j)
 (S.sgB n2 (S.desV (Min.min nq (20)) fun j => tq (j + aq)))
 (List.length (S.grp (S.desV (Min.min nq (20)) fun j => tq (j + aq))))
 fun j =>
 S.at' (S.grp (S.desV (Min.min nq (20)) fun j => tq (j + aq))) j))) ≤
 List.length
 (Prod.snd
 (Prod.snd
 (S.addS (S.sgB n1 (S.desV (Min.min np (20)) fun j => tp (j + ap)))
 (List.length (S.grp (S.desV (Min.min np (20)) fun j => tp (j + ap))))
 (fun j =>
 S.at' (S.grp (S.desV (Min.min np (20)) fun j => tp (j + ap))) j)
 (S.sgB n2 (S.desV (Min.min nq (20)) fun j => tq (j + aq)))
 (List.length (S.grp (S.desV (Min.min nq (20)) fun j => tq (j + aq))))
 fun j =>
 S.at' (S.grp (S.desV (Min.min nq (20)) fun j => tq (j + aq))) j))) ∧
 List.length
 (Prod.snd
 (Prod.snd
 (S.addS (S.sgB n1 (S.desV (Min.min np (20)) fun j => tp (j + ap)))
 (List.length (S.grp (S.desV (Min.min np (20)) fun j => tp (j + ap))))
 (fun j =>
 S.at' (S.grp (S.desV (Min.min np (20)) fun j => tp (j + ap))) j)
 (S.sgB n2 (S.desV (Min.min nq (20)) fun j => tq (j + aq)))
 (List.length (S.grp (S.desV (Min.min nq (20)) fun j => tq (j + aq))))
 fun j =>
 S.at' (S.grp (S.desV (Min.min nq (20)) fun j => tq (j + aq))) j))) ≤
 1000000) ∧
 0 + List.length (S.grp (S.desV (Min.min nr (20)) fun j => tr (j + ar))) ≤
 List.length (S.grp (S.desV (Min.min nr (20)) fun j => tr (j + ar))) ∧
 List.length (S.grp (S.desV (Min.min nr (20)) fun j => tr (j + ar))) ≤ 1000000))
 then (bif (decide
 ((0 + List.length (S.grp (S.desV (Min.min np (20)) fun j => tp (j + ap))) ≤
 List.length (S.grp (S.desV (Min.min np (20)) fun j => tp (j + ap))) ∧
 List.length (S.grp (S.desV (Min.min np (20)) fun j => tp (j + ap))) ≤
 1000000) ∧
 0 +
 List.length
 (Prod.snd
 (Prod.snd
 (S.addS (S.sgB n2 (S.desV (Min.min nq (20)) fun j => tq (j + aq)))
 (List.length (S.grp (S.desV (Min.min nq (20)) fun j => tq (j + aq))))
 (fun j =>
 S.at' (S.grp (S.desV (Min.min nq (20)) fun j => tq (j + aq))) j)
 (S.sgB n3 (S.desV (Min.min nr (20)) fun j => tr (j + ar)))
 (List.length (S.grp (S.desV (Min.min nr (20)) fun j => tr (j + ar))))
 fun j =>
 S.at' (S.grp (S.desV (Min.min nr (20)) fun j => tr (j + ar))) j))) ≤
 List.length
 (Prod.snd
 (Prod.snd
 (S.addS (S.sgB n2 (S.desV (Min.min nq (20)) fun j => tq (j + aq)))
 (List.length (S.grp (S.desV (Min.min nq (20)) fun j => tq (j + aq))))
 (fun j =>
 S.at' (S.grp (S.desV (Min.min nq (20)) fun j => tq (j + aq))) j)
 (S.sgB n3 (S.desV (Min.min nr (20)) fun j => tr (j + ar)))
 (List.length (S.grp (S.desV (Min.min nr (20)) fun j => tr (j + ar))))
 fun j =>
 S.at' (S.grp (S.desV (Min.min nr (20)) fun j => tr (j + ar))) j))) ∧
 List.length
 (Prod.snd
 (Prod.snd
 (S.addS (S.sgB n2 (S.desV (Min.min nq (20)) fun j => tq (j + aq)))
 (List.length (S.grp (S.desV (Min.min nq (20)) fun j => tq (j + aq))))
 (fun j =>
 S.at' (S.grp (S.desV (Min.min nq (20)) fun j => tq (j + aq))) j)
 (S.sgB n3 (S.desV (Min.min nr (20)) fun j => tr (j + ar)))
 (List.length (S.grp (S.desV (Min.min nr (20)) fun j => tr (j + ar))))
 fun j =>
 S.at' (S.grp (S.desV (Min.min nr (20)) fun j => tr (j + ar))) j))) ≤
 1000000))
 then (bif (Prod.fst
 (Prod.snd
 (S.addS (S.sgB n1 (S.desV (Min.min np (20)) fun j => tp (j + ap)))
 (List.length (S.grp (S.desV (Min.min np (20)) fun j => tp (j + ap))))
 (fun j =>
 S.at' (S.grp (S.desV (Min.min np (20)) fun j => tp (j + ap))) j)
 (S.sgB n2 (S.desV (Min.min nq (20)) fun j => tq (j + aq)))
 (List.length (S.grp (S.desV (Min.min nq (20)) fun j => tq (j + aq))))
 fun j =>
 S.at' (S.grp (S.desV (Min.min nq (20)) fun j => tq (j + aq))) j)) !=
 (0 : Int))
 then (some (.inr (false)))
 else (bif (Prod.fst
 (Prod.snd
 (S.addS (S.sgB n2 (S.desV (Min.min nq (20)) fun j => tq (j + aq)))
 (List.length (S.grp (S.desV (Min.min nq (20)) fun j => tq (j + aq))))
 (fun j =>
 S.at' (S.grp (S.desV (Min.min nq (20)) fun j => tq (j + aq))) j)
 (S.sgB n1 (S.desV (Min.min np (20)) fun j => tp (j + ap)))
 (List.length (S.grp (S.desV (Min.min np (20)) fun j => tp (j + ap))))
 fun j =>
 S.at' (S.grp (S.desV (Min.min np (20)) fun j => tp (j + ap))) j)) !=
 (0 : Int))
 then (some (.inr (false)))
 else (bif (Prod.fst
 (Prod.snd
 (S.addS (S.sgB n2 (S.desV (Min.min nq (20)) fun j => tq (j + aq)))
 (List.length (S.grp (S.desV (Min.min nq (20)) fun j => tq (j + aq))))
 (fun j =>
 S.at' (S.grp (S.desV (Min.min nq (20)) fun j => tq (j + aq))) j)
 (S.sgB n3 (S.desV (Min.min nr (20)) fun j => tr (j + ar)))
 (List.length (S.grp (S.desV (Min.min nr (20)) fun j => tr (j + ar))))
 fun j =>
 S.at' (S.grp (S.desV (Min.min nr (20)) fun j => tr (j + ar))) j)) !=
 (0 : Int))
 then (some (.inr (false)))
 else (bif (Prod.fst
 (Prod.snd
 (S.addS
 (Prod.fst
 (S.addS (S.sgB n1 (S.desV (Min.min np (20)) fun j => tp (j + ap)))
 (List.length (S.grp (S.desV (Min.min np (20)) fun j => tp (j + ap))))
 (fun j =>
 S.at' (S.grp (S.desV (Min.min np (20)) fun j => tp (j + ap))) j)
 (S.sgB n2 (S.desV (Min.min nq (20)) fun j => tq (j + aq)))
 (List.length (S.grp (S.desV (Min.min nq (20)) fun j => tq (j + aq))))
 fun j =>
 S.at' (S.grp (S.desV (Min.min nq (20)) fun j => tq (j + aq))) j))
 (List.length
 (Prod.snd
 (Prod.snd
 (S.addS (S.sgB n1 (S.desV (Min.min np (20)) fun j => tp (j + ap)))
 (List.length (S.grp (S.desV (Min.min np (20)) fun j => tp (j + ap))))
 (fun j =>
 S.at' (S.grp (S.desV (Min.min np (20)) fun j => tp (j + ap))) j)
 (S.sgB n2 (S.desV (Min.min nq (20)) fun j => tq (j + aq)))
 (List.length (S.grp (S.desV (Min.min nq (20)) fun j => tq (j + aq))))
 fun j =>
 S.at' (S.grp (S.desV (Min.min nq (20)) fun j => tq (j + aq))) j))))
 (fun j =>
 S.at'
 (Prod.snd
 (Prod.snd
 (S.addS (S.sgB n1 (S.desV (Min.min np (20)) fun j => tp (j + ap)))
 (List.length (S.grp (S.desV (Min.min np (20)) fun j => tp (j + ap))))
 (fun j =>
 S.at' (S.grp (S.desV (Min.min np (20)) fun j => tp (j + ap))) j)
 (S.sgB n2 (S.desV (Min.min nq (20)) fun j => tq (j + aq)))
 (List.length (S.grp (S.desV (Min.min nq (20)) fun j => tq (j + aq))))
 fun j =>
 S.at' (S.grp (S.desV (Min.min nq (20)) fun j => tq (j + aq))) j)))
 j)
 (S.sgB n3 (S.desV (Min.min nr (20)) fun j => tr (j + ar)))
 (List.length (S.grp (S.desV (Min.min nr (20)) fun j => tr (j + ar))))
 fun j =>
 S.at' (S.grp (S.desV (Min.min nr (20)) fun j => tr (j + ar))) j)) !=
 (0 : Int))
 then (some (.inr (false)))
 else (bif (Prod.fst
 (Prod.snd
 (S.addS (S.sgB n1 (S.desV (Min.min np (20)) fun j => tp (j + ap)))
 (List.length (S.grp (S.desV (Min.min np (20)) fun j => tp (j + ap))))
 (fun j =>
 S.at' (S.grp (S.desV (Min.min np (20)) fun j => tp (j + ap))) j)
 (Prod.fst
 (S.addS (S.sgB n2 (S.desV (Min.min nq (20)) fun j => tq (j + aq)))
 (List.length (S.grp (S.desV (Min.min nq (20)) fun j => tq (j + aq))))
 (fun j =>
 S.at' (S.grp (S.desV (Min.min nq (20)) fun j => tq (j + aq))) j)
 (S.sgB n3 (S.desV (Min.min nr (20)) fun j => tr (j + ar)))
 (List.length (S.grp (S.desV (Min.min nr (20)) fun j => tr (j + ar))))
 fun j =>
 S.at' (S.grp (S.desV (Min.min nr (20)) fun j => tr (j + ar))) j))
 (List.length
 (Prod.snd
 (Prod.snd
 (S.addS (S.sgB n2 (S.desV (Min.min nq (20)) fun j => tq (j + aq)))
 (List.length (S.grp (S.desV (Min.min nq (20)) fun j => tq (j + aq))))
 (fun j =>
 S.at' (S.grp (S.desV (Min.min nq (20)) fun j => tq (j + aq))) j)
 (S.sgB n3 (S.desV (Min.min nr (20)) fun j => tr (j + ar)))
 (List.length (S.grp (S.desV (Min.min nr (20)) fun j => tr (j + ar))))
 fun j =>
 S.at' (S.grp (S.desV (Min.min nr (20)) fun j => tr (j + ar))) j))))
 fun j =>
 S.at'
 (Prod.snd
 (Prod.snd
 (S.addS (S.sgB n2 (S.desV (Min.min nq (20)) fun j => tq (j + aq)))
 (List.length (S.grp (S.desV (Min.min nq (20)) fun j => tq (j + aq))))
 (fun j =>
 S.at' (S.grp (S.desV (Min.min nq (20)) fun j => tq (j + aq))) j)
 (S.sgB n3 (S.desV (Min.min nr (20)) fun j => tr (j + ar)))
 (List.length (S.grp (S.desV (Min.min nr (20)) fun j => tr (j + ar))))
 fun j =>
 S.at' (S.grp (S.desV (Min.min nr (20)) fun j => tr (j + ar))) j)))
 j)) !=
 (0 : Int))
 then (some (.inr (false)))
 else (bif (decide
 ((0 +
 List.length
 (Prod.snd
 (Prod.snd
 (S.addS (S.sgB n1 (S.desV (Min.min np (20)) fun j => tp (j + ap)))
 (List.length (S.grp (S.desV (Min.min np (20)) fun j => tp (j + ap))))
 (fun j =>
 S.at' (S.grp (S.desV (Min.min np (20)) fun j => tp (j + ap))) j)
 (S.sgB n2 (S.desV (Min.min nq (20)) fun j => tq (j + aq)))
 (List.length (S.grp (S.desV (Min.min nq (20)) fun j => tq (j + aq))))
 fun j =>
 S.at' (S.grp (S.desV (Min.min nq (20)) fun j => tq (j + aq))) j))) ≤
 List.length
 (Prod.snd
 (Prod.snd
 (S.addS (S.sgB n1 (S.desV (Min.min np (20)) fun j => tp (j + ap)))
 (List.length (S.grp (S.desV (Min.min np (20)) fun j => tp (j + ap))))
 (fun j =>
 S.at' (S.grp (S.desV (Min.min np (20)) fun j => tp (j + ap))) j)
 (S.sgB n2 (S.desV (Min.min nq (20)) fun j => tq (j + aq)))
 (List.length (S.grp (S.desV (Min.min nq (20)) fun j => tq (j + aq))))
 fun j =>
 S.at' (S.grp (S.desV (Min.min nq (20)) fun j => tq (j + aq))) j))) ∧
 List.length
 (Prod.snd
 (Prod.snd
 (S.addS (S.sgB n1 (S.desV (Min.min np (20)) fun j => tp (j + ap)))
 (List.length (S.grp (S.desV (Min.min np (20)) fun j => tp (j + ap))))
 (fun j =>
 S.at' (S.grp (S.desV (Min.min np (20)) fun j => tp (j + ap))) j)
 (S.sgB n2 (S.desV (Min.min nq (20)) fun j => tq (j + aq)))
 (List.length (S.grp (S.desV (Min.min nq (20)) fun j => tq (j + aq))))
 fun j =>
 S.at' (S.grp (S.desV (Min.min nq (20)) fun j => tq (j + aq))) j))) ≤
 1000000) ∧
 0 +
 List.length
 (Prod.snd
 (Prod.snd
 (S.addS (S.sgB n2 (S.desV (Min.min nq (20)) fun j => tq (j + aq)))
 (List.length (S.grp (S.desV (Min.min nq (20)) fun j => tq (j + aq))))
 (fun j =>
 S.at' (S.grp (S.desV (Min.min nq (20)) fun j => tq (j + aq))) j)
 (S.sgB n1 (S.desV (Min.min np (20)) fun j => tp (j + ap)))
 (List.length (S.grp (S.desV (Min.min np (20)) fun j => tp (j + ap))))
 fun j =>
 S.at' (S.grp (S.desV (Min.min np (20)) fun j => tp (j + ap))) j))) ≤
 List.length
 (Prod.snd
 (Prod.snd
 (S.addS (S.sgB n2 (S.desV (Min.min nq (20)) fun j => tq (j + aq)))
 (List.length (S.grp (S.desV (Min.min nq (20)) fun j => tq (j + aq))))
 (fun j =>
 S.at' (S.grp (S.desV (Min.min nq (20)) fun j => tq (j + aq))) j)
 (S.sgB n1 (S.desV (Min.min np (20)) fun j => tp (j + ap)))
 (List.length (S.grp (S.desV (Min.min np (20)) fun j => tp (j + ap))))
 fun j =>
 S.at' (S.grp (S.desV (Min.min np (20)) fun j => tp (j + ap))) j))) ∧
 List.length
 (Prod.snd
 (Prod.snd
 (S.addS (S.sgB n2 (S.desV (Min.min nq (20)) fun j => tq (j + aq)))
 (List.length (S.grp (S.desV (Min.min nq (20)) fun j => tq (j + aq))))
 (fun j =>
 S.at' (S.grp (S.desV (Min.min nq (20)) fun j => tq (j + aq))) j)
 (S.sgB n1 (S.desV (Min.min np (20)) fun j => tp (j + ap)))
 (List.length (S.grp (S.desV (Min.min np (20)) fun j => tp (j + ap))))
 fun j =>
 S.at' (S.grp (S.desV (Min.min np (20)) fun j => tp (j + ap))) j))) ≤
 1000000))
 then (bif (S.samI
 (Prod.fst
 (S.addS (S.sgB n1 (S.desV (Min.min np (20)) fun j => tp (j + ap)))
 (List.length (S.grp (S.desV (Min.min np (20)) fun j => tp (j + ap))))
 (fun j =>
 S.at' (S.grp (S.desV (Min.min np (20)) fun j => tp (j + ap))) j)
 (S.sgB n2 (S.desV (Min.min nq (20)) fun j => tq (j + aq)))
 (List.length (S.grp (S.desV (Min.min nq (20)) fun j => tq (j + aq)))) fun j =>
 S.at' (S.grp (S.desV (Min.min nq (20)) fun j => tq (j + aq))) j))
 (List.length
 (Prod.snd
 (Prod.snd
 (S.addS (S.sgB n1 (S.desV (Min.min np (20)) fun j => tp (j + ap)))
 (List.length (S.grp (S.desV (Min.min np (20)) fun j => tp (j + ap))))
 (fun j =>
 S.at' (S.grp (S.desV (Min.min np (20)) fun j => tp (j + ap))) j)
 (S.sgB n2 (S.desV (Min.min nq (20)) fun j => tq (j + aq)))
 (List.length (S.grp (S.desV (Min.min nq (20)) fun j => tq (j + aq))))
 fun j =>
 S.at' (S.grp (S.desV (Min.min nq (20)) fun j => tq (j + aq))) j))))
 (fun j =>
 S.at'
 (Prod.snd
 (Prod.snd
 (S.addS (S.sgB n1 (S.desV (Min.min np (20)) fun j => tp (j + ap)))
 (List.length (S.grp (S.desV (Min.min np (20)) fun j => tp (j + ap))))
 (fun j =>
 S.at' (S.grp (S.desV (Min.min np (20)) fun j => tp (j + ap))) j)
 (S.sgB n2 (S.desV (Min.min nq (20)) fun j => tq (j + aq)))
 (List.length (S.grp (S.desV (Min.min nq (20)) fun j => tq (j + aq))))
 fun j =>
 S.at' (S.grp (S.desV (Min.min nq (20)) fun j => tq (j + aq))) j)))
 j)
 (Prod.fst
 (S.addS (S.sgB n2 (S.desV (Min.min nq (20)) fun j => tq (j + aq)))
 (List.length (S.grp (S.desV (Min.min nq (20)) fun j => tq (j + aq))))
 (fun j =>
 S.at' (S.grp (S.desV (Min.min nq (20)) fun j => tq (j + aq))) j)
 (S.sgB n1 (S.desV (Min.min np (20)) fun j => tp (j + ap)))
 (List.length (S.grp (S.desV (Min.min np (20)) fun j => tp (j + ap)))) fun j =>
 S.at' (S.grp (S.desV (Min.min np (20)) fun j => tp (j + ap))) j))
 (List.length
 (Prod.snd
 (Prod.snd
 (S.addS (S.sgB n2 (S.desV (Min.min nq (20)) fun j => tq (j + aq)))
 (List.length (S.grp (S.desV (Min.min nq (20)) fun j => tq (j + aq))))
 (fun j =>
 S.at' (S.grp (S.desV (Min.min nq (20)) fun j => tq (j + aq))) j)
 (S.sgB n1 (S.desV (Min.min np (20)) fun j => tp (j + ap)))
 (List.length (S.grp (S.desV (Min.min np (20)) fun j => tp (j + ap))))
 fun j =>
 S.at' (S.grp (S.desV (Min.min np (20)) fun j => tp (j + ap))) j))))
 fun j =>
 S.at'
 (Prod.snd
 (Prod.snd
 (S.addS (S.sgB n2 (S.desV (Min.min nq (20)) fun j => tq (j + aq)))
 (List.length (S.grp (S.desV (Min.min nq (20)) fun j => tq (j + aq))))
 (fun j =>
 S.at' (S.grp (S.desV (Min.min nq (20)) fun j => tq (j + aq))) j)
 (S.sgB n1 (S.desV (Min.min np (20)) fun j => tp (j + ap)))
 (List.length (S.grp (S.desV (Min.min np (20)) fun j => tp (j + ap))))
 fun j =>
 S.at' (S.grp (S.desV (Min.min np (20)) fun j => tp (j + ap))) j)))
 j)
 then (bif (decide
 ((0 +
 List.length
 (Prod.snd
 (Prod.snd
 (S.addS
 (Prod.fst
 (S.addS (S.sgB n1 (S.desV (Min.min np (20)) fun j => tp (j + ap)))
 (List.length (S.grp (S.desV (Min.min np (20)) fun j => tp (j + ap))))
 (fun j =>
 S.at' (S.grp (S.desV (Min.min np (20)) fun j => tp (j + ap)))
 j)
 (S.sgB n2 (S.desV (Min.min nq (20)) fun j => tq (j + aq)))
 (List.length (S.grp (S.desV (Min.min nq (20)) fun j => tq (j + aq))))
 fun j =>
 S.at' (S.grp (S.desV (Min.min nq (20)) fun j => tq (j + aq)))
 j))
 (List.length
 (Prod.snd
 (Prod.snd
 (S.addS
 (S.sgB n1 (S.desV (Min.min np (20)) fun j => tp (j + ap)))
 (List.length
 (S.grp (S.desV (Min.min np (20)) fun j => tp (j + ap))))
 (fun j =>
 S.at'
 (S.grp (S.desV (Min.min np (20)) fun j => tp (j + ap))) j)
 (S.sgB n2 (S.desV (Min.min nq (20)) fun j => tq (j + aq)))
 (List.length
 (S.grp (S.desV (Min.min nq (20)) fun j => tq (j + aq))))
 fun j =>
 S.at'
 (S.grp (S.desV (Min.min nq (20)) fun j => tq (j + aq))) j))))
 (fun j =>
 S.at'
 (Prod.snd
 (Prod.snd
 (S.addS
 (S.sgB n1 (S.desV (Min.min np (20)) fun j => tp (j + ap)))
 (List.length
 (S.grp (S.desV (Min.min np (20)) fun j => tp (j + ap))))
 (fun j =>
 S.at'
 (S.grp (S.desV (Min.min np (20)) fun j => tp (j + ap))) j)
 (S.sgB n2 (S.desV (Min.min nq (20)) fun j => tq (j + aq)))
 (List.length
 (S.grp (S.desV (Min.min nq (20)) fun j => tq (j + aq))))
 fun j =>
 S.at'
 (S.grp (S.desV (Min.min nq (20)) fun j => tq (j + aq))) j)))
 j)
 (S.sgB n3 (S.desV (Min.min nr (20)) fun j => tr (j + ar)))
 (List.length (S.grp (S.desV (Min.min nr (20)) fun j => tr (j + ar))))
 fun j =>
 S.at' (S.grp (S.desV (Min.min nr (20)) fun j => tr (j + ar))) j))) ≤
 List.length
 (Prod.snd
 (Prod.snd
 (S.addS
 (Prod.fst
 (S.addS (S.sgB n1 (S.desV (Min.min np (20)) fun j => tp (j + ap)))
 (List.length (S.grp (S.desV (Min.min np (20)) fun j => tp (j + ap))))
 (fun j =>
 S.at' (S.grp (S.desV (Min.min np (20)) fun j => tp (j + ap))) j)
 (S.sgB n2 (S.desV (Min.min nq (20)) fun j => tq (j + aq)))
 (List.length (S.grp (S.desV (Min.min nq (20)) fun j => tq (j + aq))))
 fun j =>
 S.at' (S.grp (S.desV (Min.min nq (20)) fun j => tq (j + aq))) j))
 (List.length
 (Prod.snd
 (Prod.snd
 (S.addS
 (S.sgB n1 (S.desV (Min.min np (20)) fun j => tp (j + ap)))
 (List.length
 (S.grp (S.desV (Min.min np (20)) fun j => tp (j + ap))))
 (fun j =>
 S.at'
 (S.grp (S.desV (Min.min np (20)) fun j => tp (j + ap))) j)
 (S.sgB n2 (S.desV (Min.min nq (20)) fun j => tq (j + aq)))
 (List.length
 (S.grp (S.desV (Min.min nq (20)) fun j => tq (j + aq))))
 fun j =>
 S.at' (S.grp (S.desV (Min.min nq (20)) fun j => tq (j + aq)))
 j))))
 (fun j =>
 S.at'
 (Prod.snd
 (Prod.snd
 (S.addS
 (S.sgB n1 (S.desV (Min.min np (20)) fun j => tp (j + ap)))
 (List.length
 (S.grp (S.desV (Min.min np (20)) fun j => tp (j + ap))))
 (fun j =>
 S.at'
 (S.grp (S.desV (Min.min np (20)) fun j => tp (j + ap))) j)
 (S.sgB n2 (S.desV (Min.min nq (20)) fun j => tq (j + aq)))
 (List.length
 (S.grp (S.desV (Min.min nq (20)) fun j => tq (j + aq))))
 fun j =>
 S.at'
 (S.grp (S.desV (Min.min nq (20)) fun j => tq (j + aq))) j)))
 j)
 (S.sgB n3 (S.desV (Min.min nr (20)) fun j => tr (j + ar)))
 (List.length (S.grp (S.desV (Min.min nr (20)) fun j => tr (j + ar))))
 fun j =>
 S.at' (S.grp (S.desV (Min.min nr (20)) fun j => tr (j + ar))) j))) ∧
 List.length
 (Prod.snd
 (Prod.snd
 (S.addS
 (Prod.fst
 (S.addS (S.sgB n1 (S.desV (Min.min np (20)) fun j => tp (j + ap)))
 (List.length (S.grp (S.desV (Min.min np (20)) fun j => tp (j + ap))))
 (fun j =>
 S.at' (S.grp (S.desV (Min.min np (20)) fun j => tp (j + ap))) j)
 (S.sgB n2 (S.desV (Min.min nq (20)) fun j => tq (j + aq)))
 (List.length (S.grp (S.desV (Min.min nq (20)) fun j => tq (j + aq))))
 fun j =>
 S.at' (S.grp (S.desV (Min.min nq (20)) fun j => tq (j + aq))) j))
 (List.length
 (Prod.snd
 (Prod.snd
 (S.addS
 (S.sgB n1 (S.desV (Min.min np (20)) fun j => tp (j + ap)))
 (List.length
 (S.grp (S.desV (Min.min np (20)) fun j => tp (j + ap))))
 (fun j =>
 S.at'
 (S.grp (S.desV (Min.min np (20)) fun j => tp (j + ap))) j)
 (S.sgB n2 (S.desV (Min.min nq (20)) fun j => tq (j + aq)))
 (List.length
 (S.grp (S.desV (Min.min nq (20)) fun j => tq (j + aq))))
 fun j =>
 S.at' (S.grp (S.desV (Min.min nq (20)) fun j => tq (j + aq)))
 j))))
 (fun j =>
 S.at'
 (Prod.snd
 (Prod.snd
 (S.addS
 (S.sgB n1 (S.desV (Min.min np (20)) fun j => tp (j + ap)))
 (List.length
 (S.grp (S.desV (Min.min np (20)) fun j => tp (j + ap))))
 (fun j =>
 S.at'
 (S.grp (S.desV (Min.min np (20)) fun j => tp (j + ap))) j)
 (S.sgB n2 (S.desV (Min.min nq (20)) fun j => tq (j + aq)))
 (List.length
 (S.grp (S.desV (Min.min nq (20)) fun j => tq (j + aq))))
 fun j =>
 S.at'
 (S.grp (S.desV (Min.min nq (20)) fun j => tq (j + aq))) j)))
 j)
 (S.sgB n3 (S.desV (Min.min nr (20)) fun j => tr (j + ar)))
 (List.length (S.grp (S.desV (Min.min nr (20)) fun j => tr (j + ar))))
 fun j =>
 S.at' (S.grp (S.desV (Min.min nr (20)) fun j => tr (j + ar))) j))) ≤
 1000000) ∧
 0 +
 List.length
 (Prod.snd
 (Prod.snd
 (S.addS (S.sgB n1 (S.desV (Min.min np (20)) fun j => tp (j + ap)))
 (List.length (S.grp (S.desV (Min.min np (20)) fun j => tp (j + ap))))
 (fun j =>
 S.at' (S.grp (S.desV (Min.min np (20)) fun j => tp (j + ap))) j)
 (Prod.fst
 (S.addS (S.sgB n2 (S.desV (Min.min nq (20)) fun j => tq (j + aq)))
 (List.length (S.grp (S.desV (Min.min nq (20)) fun j => tq (j + aq))))
 (fun j =>
 S.at' (S.grp (S.desV (Min.min nq (20)) fun j => tq (j + aq)))
 j)
 (S.sgB n3 (S.desV (Min.min nr (20)) fun j => tr (j + ar)))
 (List.length (S.grp (S.desV (Min.min nr (20)) fun j => tr (j + ar))))
 fun j =>
 S.at' (S.grp (S.desV (Min.min nr (20)) fun j => tr (j + ar)))
 j))
 (List.length
 (Prod.snd
 (Prod.snd
 (S.addS
 (S.sgB n2 (S.desV (Min.min nq (20)) fun j => tq (j + aq)))
 (List.length
 (S.grp (S.desV (Min.min nq (20)) fun j => tq (j + aq))))
 (fun j =>
 S.at'
 (S.grp (S.desV (Min.min nq (20)) fun j => tq (j + aq))) j)
 (S.sgB n3 (S.desV (Min.min nr (20)) fun j => tr (j + ar)))
 (List.length
 (S.grp (S.desV (Min.min nr (20)) fun j => tr (j + ar))))
 fun j =>
 S.at'
 (S.grp (S.desV (Min.min nr (20)) fun j => tr (j + ar))) j))))
 fun j =>
 S.at'
 (Prod.snd
 (Prod.snd
 (S.addS
 (S.sgB n2 (S.desV (Min.min nq (20)) fun j => tq (j + aq)))
 (List.length
 (S.grp (S.desV (Min.min nq (20)) fun j => tq (j + aq))))
 (fun j =>
 S.at'
 (S.grp (S.desV (Min.min nq (20)) fun j => tq (j + aq))) j)
 (S.sgB n3 (S.desV (Min.min nr (20)) fun j => tr (j + ar)))
 (List.length
 (S.grp (S.desV (Min.min nr (20)) fun j => tr (j + ar))))
 fun j =>
 S.at'
 (S.grp (S.desV (Min.min nr (20)) fun j => tr (j + ar))) j)))
 j))) ≤
 List.length
 (Prod.snd
 (Prod.snd
 (S.addS (S.sgB n1 (S.desV (Min.min np (20)) fun j => tp (j + ap)))
 (List.length (S.grp (S.desV (Min.min np (20)) fun j => tp (j + ap))))
 (fun j =>
 S.at' (S.grp (S.desV (Min.min np (20)) fun j => tp (j + ap))) j)
 (Prod.fst
 (S.addS (S.sgB n2 (S.desV (Min.min nq (20)) fun j => tq (j + aq)))
 (List.length (S.grp (S.desV (Min.min nq (20)) fun j => tq (j + aq))))
 (fun j =>
 S.at' (S.grp (S.desV (Min.min nq (20)) fun j => tq (j + aq))) j)
 (S.sgB n3 (S.desV (Min.min nr (20)) fun j => tr (j + ar)))
 (List.length (S.grp (S.desV (Min.min nr (20)) fun j => tr (j + ar))))
 fun j =>
 S.at' (S.grp (S.desV (Min.min nr (20)) fun j => tr (j + ar))) j))
 (List.length
 (Prod.snd
 (Prod.snd
 (S.addS
 (S.sgB n2 (S.desV (Min.min nq (20)) fun j => tq (j + aq)))
 (List.length
 (S.grp (S.desV (Min.min nq (20)) fun j => tq (j + aq))))
 (fun j =>
 S.at'
 (S.grp (S.desV (Min.min nq (20)) fun j => tq (j + aq))) j)
 (S.sgB n3 (S.desV (Min.min nr (20)) fun j => tr (j + ar)))
 (List.length
 (S.grp (S.desV (Min.min nr (20)) fun j => tr (j + ar))))
 fun j =>
 S.at' (S.grp (S.desV (Min.min nr (20)) fun j => tr (j + ar)))
 j))))
 fun j =>
 S.at'
 (Prod.snd
 (Prod.snd
 (S.addS
 (S.sgB n2 (S.desV (Min.min nq (20)) fun j => tq (j + aq)))
 (List.length
 (S.grp (S.desV (Min.min nq (20)) fun j => tq (j + aq))))
 (fun j =>
 S.at'
 (S.grp (S.desV (Min.min nq (20)) fun j => tq (j + aq))) j)
 (S.sgB n3 (S.desV (Min.min nr (20)) fun j => tr (j + ar)))
 (List.length
 (S.grp (S.desV (Min.min nr (20)) fun j => tr (j + ar))))
 fun j =>
 S.at' (S.grp (S.desV (Min.min nr (20)) fun j => tr (j + ar)))
 j)))
 j))) ∧
 List.length
 (Prod.snd
 (Prod.snd
 (S.addS (S.sgB n1 (S.desV (Min.min np (20)) fun j => tp (j + ap)))
 (List.length (S.grp (S.desV (Min.min np (20)) fun j => tp (j + ap))))
 (fun j =>
 S.at' (S.grp (S.desV (Min.min np (20)) fun j => tp (j + ap))) j)
 (Prod.fst
 (S.addS (S.sgB n2 (S.desV (Min.min nq (20)) fun j => tq (j + aq)))
 (List.length (S.grp (S.desV (Min.min nq (20)) fun j => tq (j + aq))))
 (fun j =>
 S.at' (S.grp (S.desV (Min.min nq (20)) fun j => tq (j + aq))) j)
 (S.sgB n3 (S.desV (Min.min nr (20)) fun j => tr (j + ar)))
 (List.length (S.grp (S.desV (Min.min nr (20)) fun j => tr (j + ar))))
 fun j =>
 S.at' (S.grp (S.desV (Min.min nr (20)) fun j => tr (j + ar))) j))
 (List.length
 (Prod.snd
 (Prod.snd
 (S.addS
 (S.sgB n2 (S.desV (Min.min nq (20)) fun j => tq (j + aq)))
 (List.length
 (S.grp (S.desV (Min.min nq (20)) fun j => tq (j + aq))))
 (fun j =>
 S.at'
 (S.grp (S.desV (Min.min nq (20)) fun j => tq (j + aq))) j)
 (S.sgB n3 (S.desV (Min.min nr (20)) fun j => tr (j + ar)))
 (List.length
 (S.grp (S.desV (Min.min nr (20)) fun j => tr (j + ar))))
 fun j =>
 S.at' (S.grp (S.desV (Min.min nr (20)) fun j => tr (j + ar)))
 j))))
 fun j =>
 S.at'
 (Prod.snd
 (Prod.snd
 (S.addS
 (S.sgB n2 (S.desV (Min.min nq (20)) fun j => tq (j + aq)))
 (List.length
 (S.grp (S.desV (Min.min nq (20)) fun j => tq (j + aq))))
 (fun j =>
 S.at'
 (S.grp (S.desV (Min.min nq (20)) fun j => tq (j + aq))) j)
 (S.sgB n3 (S.desV (Min.min nr (20)) fun j => tr (j + ar)))
 (List.length
 (S.grp (S.desV (Min.min nr (20)) fun j => tr (j + ar))))
 fun j =>
 S.at' (S.grp (S.desV (Min.min nr (20)) fun j => tr (j + ar)))
 j)))
 j))) ≤
 1000000))
 then (bif (S.samI
 (Prod.fst
 (S.addS
 (Prod.fst
 (S.addS (S.sgB n1 (S.desV (Min.min np (20)) fun j => tp (j + ap)))
 (List.length (S.grp (S.desV (Min.min np (20)) fun j => tp (j + ap))))
 (fun j =>
 S.at' (S.grp (S.desV (Min.min np (20)) fun j => tp (j + ap))) j)
 (S.sgB n2 (S.desV (Min.min nq (20)) fun j => tq (j + aq)))
 (List.length (S.grp (S.desV (Min.min nq (20)) fun j => tq (j + aq))))
 fun j =>
 S.at' (S.grp (S.desV (Min.min nq (20)) fun j => tq (j + aq))) j))
 (List.length
 (Prod.snd
 (Prod.snd
 (S.addS (S.sgB n1 (S.desV (Min.min np (20)) fun j => tp (j + ap)))
 (List.length (S.grp (S.desV (Min.min np (20)) fun j => tp (j + ap))))
 (fun j =>
 S.at' (S.grp (S.desV (Min.min np (20)) fun j => tp (j + ap))) j)
 (S.sgB n2 (S.desV (Min.min nq (20)) fun j => tq (j + aq)))
 (List.length (S.grp (S.desV (Min.min nq (20)) fun j => tq (j + aq))))
 fun j =>
 S.at' (S.grp (S.desV (Min.min nq (20)) fun j => tq (j + aq))) j))))
 (fun j =>
 S.at'
 (Prod.snd
 (Prod.snd
 (S.addS (S.sgB n1 (S.desV (Min.min np (20)) fun j => tp (j + ap)))
 (List.length (S.grp (S.desV (Min.min np (20)) fun j => tp (j + ap))))
 (fun j =>
 S.at' (S.grp (S.desV (Min.min np (20)) fun j => tp (j + ap))) j)
 (S.sgB n2 (S.desV (Min.min nq (20)) fun j => tq (j + aq)))
 (List.length (S.grp (S.desV (Min.min nq (20)) fun j => tq (j + aq))))
 fun j =>
 S.at' (S.grp (S.desV (Min.min nq (20)) fun j => tq (j + aq))) j)))
 j)
 (S.sgB n3 (S.desV (Min.min nr (20)) fun j => tr (j + ar)))
 (List.length (S.grp (S.desV (Min.min nr (20)) fun j => tr (j + ar)))) fun j =>
 S.at' (S.grp (S.desV (Min.min nr (20)) fun j => tr (j + ar))) j))
 (List.length
 (Prod.snd
 (Prod.snd
 (S.addS
 (Prod.fst
 (S.addS (S.sgB n1 (S.desV (Min.min np (20)) fun j => tp (j + ap)))
 (List.length (S.grp (S.desV (Min.min np (20)) fun j => tp (j + ap))))
 (fun j =>
 S.at' (S.grp (S.desV (Min.min np (20)) fun j => tp (j + ap))) j)
 (S.sgB n2 (S.desV (Min.min nq (20)) fun j => tq (j + aq)))
 (List.length (S.grp (S.desV (Min.min nq (20)) fun j => tq (j + aq))))
 fun j =>
 S.at' (S.grp (S.desV (Min.min nq (20)) fun j => tq (j + aq))) j))
 (List.length
 (Prod.snd
 (Prod.snd
 (S.addS (S.sgB n1 (S.desV (Min.min np (20)) fun j => tp (j + ap)))
 (List.length (S.grp (S.desV (Min.min np (20)) fun j => tp (j + ap))))
 (fun j =>
 S.at' (S.grp (S.desV (Min.min np (20)) fun j => tp (j + ap))) j)
 (S.sgB n2 (S.desV (Min.min nq (20)) fun j => tq (j + aq)))
 (List.length (S.grp (S.desV (Min.min nq (20)) fun j => tq (j + aq))))
 fun j =>
 S.at' (S.grp (S.desV (Min.min nq (20)) fun j => tq (j + aq))) j))))
 (fun j =>
 S.at'
 (Prod.snd
 (Prod.snd
 (S.addS (S.sgB n1 (S.desV (Min.min np (20)) fun j => tp (j + ap)))
 (List.length (S.grp (S.desV (Min.min np (20)) fun j => tp (j + ap))))
 (fun j =>
 S.at' (S.grp (S.desV (Min.min np (20)) fun j => tp (j + ap))) j)
 (S.sgB n2 (S.desV (Min.min nq (20)) fun j => tq (j + aq)))
 (List.length (S.grp (S.desV (Min.min nq (20)) fun j => tq (j + aq))))
 fun j =>
 S.at' (S.grp (S.desV (Min.min nq (20)) fun j => tq (j + aq))) j)))
 j)
 (S.sgB n3 (S.desV (Min.min nr (20)) fun j => tr (j + ar)))
 (List.length (S.grp (S.desV (Min.min nr (20)) fun j => tr (j + ar))))
 fun j =>
 S.at' (S.grp (S.desV (Min.min nr (20)) fun j => tr (j + ar))) j))))
 (fun j =>
 S.at'
 (Prod.snd
 (Prod.snd
 (S.addS
 (Prod.fst
 (S.addS (S.sgB n1 (S.desV (Min.min np (20)) fun j => tp (j + ap)))
 (List.length (S.grp (S.desV (Min.min np (20)) fun j => tp (j + ap))))
 (fun j =>
 S.at' (S.grp (S.desV (Min.min np (20)) fun j => tp (j + ap))) j)
 (S.sgB n2 (S.desV (Min.min nq (20)) fun j => tq (j + aq)))
 (List.length (S.grp (S.desV (Min.min nq (20)) fun j => tq (j + aq))))
 fun j =>
 S.at' (S.grp (S.desV (Min.min nq (20)) fun j => tq (j + aq))) j))
 (List.length
 (Prod.snd
 (Prod.snd
 (S.addS (S.sgB n1 (S.desV (Min.min np (20)) fun j => tp (j + ap)))
 (List.length (S.grp (S.desV (Min.min np (20)) fun j => tp (j + ap))))
 (fun j =>
 S.at' (S.grp (S.desV (Min.min np (20)) fun j => tp (j + ap))) j)
 (S.sgB n2 (S.desV (Min.min nq (20)) fun j => tq (j + aq)))
 (List.length (S.grp (S.desV (Min.min nq (20)) fun j => tq (j + aq))))
 fun j =>
 S.at' (S.grp (S.desV (Min.min nq (20)) fun j => tq (j + aq)))
 j))))
 (fun j =>
 S.at'
 (Prod.snd
 (Prod.snd
 (S.addS (S.sgB n1 (S.desV (Min.min np (20)) fun j => tp (j + ap)))
 (List.length (S.grp (S.desV (Min.min np (20)) fun j => tp (j + ap))))
 (fun j =>
 S.at' (S.grp (S.desV (Min.min np (20)) fun j => tp (j + ap)))
 j)
 (S.sgB n2 (S.desV (Min.min nq (20)) fun j => tq (j + aq)))
 (List.length (S.grp (S.desV (Min.min nq (20)) fun j => tq (j + aq))))
 fun j =>
 S.at' (S.grp (S.desV (Min.min nq (20)) fun j => tq (j + aq)))
 j)))
 j)
 (S.sgB n3 (S.desV (Min.min nr (20)) fun j => tr (j + ar)))
 (List.length (S.grp (S.desV (Min.min nr (20)) fun j => tr (j + ar))))
 fun j =>
 S.at' (S.grp (S.desV (Min.min nr (20)) fun j => tr (j + ar))) j)))
 j)
 (Prod.fst
 (S.addS (S.sgB n1 (S.desV (Min.min np (20)) fun j => tp (j + ap)))
 (List.length (S.grp (S.desV (Min.min np (20)) fun j => tp (j + ap))))
 (fun j =>
 S.at' (S.grp (S.desV (Min.min np (20)) fun j => tp (j + ap))) j)
 (Prod.fst
 (S.addS (S.sgB n2 (S.desV (Min.min nq (20)) fun j => tq (j + aq)))
 (List.length (S.grp (S.desV (Min.min nq (20)) fun j => tq (j + aq))))
 (fun j =>
 S.at' (S.grp (S.desV (Min.min nq (20)) fun j => tq (j + aq))) j)
 (S.sgB n3 (S.desV (Min.min nr (20)) fun j => tr (j + ar)))
 (List.length (S.grp (S.desV (Min.min nr (20)) fun j => tr (j + ar))))
 fun j =>
 S.at' (S.grp (S.desV (Min.min nr (20)) fun j => tr (j + ar))) j))
 (List.length
 (Prod.snd
 (Prod.snd
 (S.addS (S.sgB n2 (S.desV (Min.min nq (20)) fun j => tq (j + aq)))
 (List.length (S.grp (S.desV (Min.min nq (20)) fun j => tq (j + aq))))
 (fun j =>
 S.at' (S.grp (S.desV (Min.min nq (20)) fun j => tq (j + aq))) j)
 (S.sgB n3 (S.desV (Min.min nr (20)) fun j => tr (j + ar)))
 (List.length (S.grp (S.desV (Min.min nr (20)) fun j => tr (j + ar))))
 fun j =>
 S.at' (S.grp (S.desV (Min.min nr (20)) fun j => tr (j + ar))) j))))
 fun j =>
 S.at'
 (Prod.snd
 (Prod.snd
 (S.addS (S.sgB n2 (S.desV (Min.min nq (20)) fun j => tq (j + aq)))
 (List.length (S.grp (S.desV (Min.min nq (20)) fun j => tq (j + aq))))
 (fun j =>
 S.at' (S.grp (S.desV (Min.min nq (20)) fun j => tq (j + aq))) j)
 (S.sgB n3 (S.desV (Min.min nr (20)) fun j => tr (j + ar)))
 (List.length (S.grp (S.desV (Min.min nr (20)) fun j => tr (j + ar))))
 fun j =>
 S.at' (S.grp (S.desV (Min.min nr (20)) fun j => tr (j + ar))) j)))
 j))
 (List.length
 (Prod.snd
 (Prod.snd
 (S.addS (S.sgB n1 (S.desV (Min.min np (20)) fun j => tp (j + ap)))
 (List.length (S.grp (S.desV (Min.min np (20)) fun j => tp (j + ap))))
 (fun j =>
 S.at' (S.grp (S.desV (Min.min np (20)) fun j => tp (j + ap))) j)
 (Prod.fst
 (S.addS (S.sgB n2 (S.desV (Min.min nq (20)) fun j => tq (j + aq)))
 (List.length (S.grp (S.desV (Min.min nq (20)) fun j => tq (j + aq))))
 (fun j =>
 S.at' (S.grp (S.desV (Min.min nq (20)) fun j => tq (j + aq))) j)
 (S.sgB n3 (S.desV (Min.min nr (20)) fun j => tr (j + ar)))
 (List.length (S.grp (S.desV (Min.min nr (20)) fun j => tr (j + ar))))
 fun j =>
 S.at' (S.grp (S.desV (Min.min nr (20)) fun j => tr (j + ar))) j))
 (List.length
 (Prod.snd
 (Prod.snd
 (S.addS (S.sgB n2 (S.desV (Min.min nq (20)) fun j => tq (j + aq)))
 (List.length (S.grp (S.desV (Min.min nq (20)) fun j => tq (j + aq))))
 (fun j =>
 S.at' (S.grp (S.desV (Min.min nq (20)) fun j => tq (j + aq))) j)
 (S.sgB n3 (S.desV (Min.min nr (20)) fun j => tr (j + ar)))
 (List.length (S.grp (S.desV (Min.min nr (20)) fun j => tr (j + ar))))
 fun j =>
 S.at' (S.grp (S.desV (Min.min nr (20)) fun j => tr (j + ar))) j))))
 fun j =>
 S.at'
 (Prod.snd
 (Prod.snd
 (S.addS (S.sgB n2 (S.desV (Min.min nq (20)) fun j => tq (j + aq)))
 (List.length (S.grp (S.desV (Min.min nq (20)) fun j => tq (j + aq))))
 (fun j =>
 S.at' (S.grp (S.desV (Min.min nq (20)) fun j => tq (j + aq))) j)
 (S.sgB n3 (S.desV (Min.min nr (20)) fun j => tr (j + ar)))
 (List.length (S.grp (S.desV (Min.min nr (20)) fun j => tr (j + ar))))
 fun j =>
 S.at' (S.grp (S.desV (Min.min nr (20)) fun j => tr (j + ar))) j)))
 j))))
 fun j =>
 S.at'
 (Prod.snd
 (Prod.snd
 (S.addS (S.sgB n1 (S.desV (Min.min np (20)) fun j => tp (j + ap)))
 (List.length (S.grp (S.desV (Min.min np (20)) fun j => tp (j + ap))))
 (fun j =>
 S.at' (S.grp (S.desV (Min.min np (20)) fun j => tp (j + ap))) j)
 (Prod.fst
 (S.addS (S.sgB n2 (S.desV (Min.min nq (20)) fun j => tq (j + aq)))
 (List.length (S.grp (S.desV (Min.min nq (20)) fun j => tq (j + aq))))
 (fun j =>
 S.at' (S.grp (S.desV (Min.min nq (20)) fun j => tq (j + aq))) j)
 (S.sgB n3 (S.desV (Min.min nr (20)) fun j => tr (j + ar)))
 (List.length (S.grp (S.desV (Min.min nr (20)) fun j => tr (j + ar))))
 fun j =>
 S.at' (S.grp (S.desV (Min.min nr (20)) fun j => tr (j + ar))) j))
 (List.length
 (Prod.snd
 (Prod.snd
 (S.addS (S.sgB n2 (S.desV (Min.min nq (20)) fun j => tq (j + aq)))
 (List.length (S.grp (S.desV (Min.min nq (20)) fun j => tq (j + aq))))
 (fun j =>
 S.at' (S.grp (S.desV (Min.min nq (20)) fun j => tq (j + aq))) j)
 (S.sgB n3 (S.desV (Min.min nr (20)) fun j => tr (j + ar)))
 (List.length (S.grp (S.desV (Min.min nr (20)) fun j => tr (j + ar))))
 fun j =>
 S.at' (S.grp (S.desV (Min.min nr (20)) fun j => tr (j + ar))) j))))
 fun j =>
 S.at'
 (Prod.snd
 (Prod.snd
 (S.addS (S.sgB n2 (S.desV (Min.min nq (20)) fun j => tq (j + aq)))
 (List.length (S.grp (S.desV (Min.min nq (20)) fun j => tq (j + aq))))
 (fun j =>
 S.at' (S.grp (S.desV (Min.min nq (20)) fun j => tq (j + aq))) j)
 (S.sgB n3 (S.desV (Min.min nr (20)) fun j => tr (j + ar)))
 (List.length (S.grp (S.desV (Min.min nr (20)) fun j => tr (j + ar))))
 fun j =>
 S.at' (S.grp (S.desV (Min.min nr (20)) fun j => tr (j + ar))) j)))
 j)))
 j)
 then (bif (decide
 ((0 + List.length (S.grp (S.desV (Min.min np (20)) fun j => tp (j + ap))) ≤
 List.length (S.grp (S.desV (Min.min np (20)) fun j => tp (j + ap))) ∧
 List.length (S.grp (S.desV (Min.min np (20)) fun j => tp (j + ap))) ≤
 1000000) ∧
 0 + List.length (S.grp (S.desV (Min.min nr (20)) fun j => tr (j + ar))) ≤
 List.length (S.grp (S.desV (Min.min nr (20)) fun j => tr (j + ar))) ∧
 List.length (S.grp (S.desV (Min.min nr (20)) fun j => tr (j + ar))) ≤ 1000000))
 then (bif (decide
 ((0 +
 List.length
 (Prod.snd
 (Prod.snd
 (S.mulI (S.sgB n1 (S.desV (Min.min np (20)) fun j => tp (j + ap)))
 (List.length (S.grp (S.desV (Min.min np (20)) fun j => tp (j + ap))))
 (fun j =>
 S.at' (S.grp (S.desV (Min.min np (20)) fun j => tp (j + ap))) j)
 (S.sgB n2 (S.desV (Min.min nq (20)) fun j => tq (j + aq)))
 (List.length (S.grp (S.desV (Min.min nq (20)) fun j => tq (j + aq))))
 fun j =>
 S.at' (S.grp (S.desV (Min.min nq (20)) fun j => tq (j + aq))) j))) ≤
 List.length
 (Prod.snd
 (Prod.snd
 (S.mulI (S.sgB n1 (S.desV (Min.min np (20)) fun j => tp (j + ap)))
 (List.length (S.grp (S.desV (Min.min np (20)) fun j => tp (j + ap))))
 (fun j =>
 S.at' (S.grp (S.desV (Min.min np (20)) fun j => tp (j + ap))) j)
 (S.sgB n2 (S.desV (Min.min nq (20)) fun j => tq (j + aq)))
 (List.length (S.grp (S.desV (Min.min nq (20)) fun j => tq (j + aq))))
 fun j =>
 S.at' (S.grp (S.desV (Min.min nq (20)) fun j => tq (j + aq))) j))) ∧
 List.length
 (Prod.snd
 (Prod.snd
 (S.mulI (S.sgB n1 (S.desV (Min.min np (20)) fun j => tp (j + ap)))
 (List.length (S.grp (S.desV (Min.min np (20)) fun j => tp (j + ap))))
 (fun j =>
 S.at' (S.grp (S.desV (Min.min np (20)) fun j => tp (j + ap))) j)
 (S.sgB n2 (S.desV (Min.min nq (20)) fun j => tq (j + aq)))
 (List.length (S.grp (S.desV (Min.min nq (20)) fun j => tq (j + aq))))
 fun j =>
 S.at' (S.grp (S.desV (Min.min nq (20)) fun j => tq (j + aq))) j))) ≤
 1000000) ∧
 0 +
 List.length
 (Prod.snd
 (Prod.snd
 (S.mulI (S.sgB n1 (S.desV (Min.min np (20)) fun j => tp (j + ap)))
 (List.length (S.grp (S.desV (Min.min np (20)) fun j => tp (j + ap))))
 (fun j =>
 S.at' (S.grp (S.desV (Min.min np (20)) fun j => tp (j + ap))) j)
 (S.sgB n3 (S.desV (Min.min nr (20)) fun j => tr (j + ar)))
 (List.length (S.grp (S.desV (Min.min nr (20)) fun j => tr (j + ar))))
 fun j =>
 S.at' (S.grp (S.desV (Min.min nr (20)) fun j => tr (j + ar))) j))) ≤
 List.length
 (Prod.snd
 (Prod.snd
 (S.mulI (S.sgB n1 (S.desV (Min.min np (20)) fun j => tp (j + ap)))
 (List.length (S.grp (S.desV (Min.min np (20)) fun j => tp (j + ap))))
 (fun j =>
 S.at' (S.grp (S.desV (Min.min np (20)) fun j => tp (j + ap))) j)
 (S.sgB n3 (S.desV (Min.min nr (20)) fun j => tr (j + ar)))
 (List.length (S.grp (S.desV (Min.min nr (20)) fun j => tr (j + ar))))
 fun j =>
 S.at' (S.grp (S.desV (Min.min nr (20)) fun j => tr (j + ar))) j))) ∧
 List.length
 (Prod.snd
 (Prod.snd
 (S.mulI (S.sgB n1 (S.desV (Min.min np (20)) fun j => tp (j + ap)))
 (List.length (S.grp (S.desV (Min.min np (20)) fun j => tp (j + ap))))
 (fun j =>
 S.at' (S.grp (S.desV (Min.min np (20)) fun j => tp (j + ap))) j)
 (S.sgB n3 (S.desV (Min.min nr (20)) fun j => tr (j + ar)))
 (List.length (S.grp (S.desV (Min.min nr (20)) fun j => tr (j + ar))))
 fun j =>
 S.at' (S.grp (S.desV (Min.min nr (20)) fun j => tr (j + ar))) j))) ≤
 1000000))
 then (bif (decide
 ((0 +
 List.length
 (Prod.snd
 (Prod.snd
 (S.mulI (S.sgB n1 (S.desV (Min.min np (20)) fun j => tp (j + ap)))
 (List.length (S.grp (S.desV (Min.min np (20)) fun j => tp (j + ap))))
 (fun j =>
 S.at' (S.grp (S.desV (Min.min np (20)) fun j => tp (j + ap))) j)
 (S.sgB n2 (S.desV (Min.min nq (20)) fun j => tq (j + aq)))
 (List.length (S.grp (S.desV (Min.min nq (20)) fun j => tq (j + aq))))
 fun j =>
 S.at' (S.grp (S.desV (Min.min nq (20)) fun j => tq (j + aq))) j))) ≤
 List.length
 (Prod.snd
 (Prod.snd
 (S.mulI (S.sgB n1 (S.desV (Min.min np (20)) fun j => tp (j + ap)))
 (List.length (S.grp (S.desV (Min.min np (20)) fun j => tp (j + ap))))
 (fun j =>
 S.at' (S.grp (S.desV (Min.min np (20)) fun j => tp (j + ap))) j)
 (S.sgB n2 (S.desV (Min.min nq (20)) fun j => tq (j + aq)))
 (List.length (S.grp (S.desV (Min.min nq (20)) fun j => tq (j + aq))))
 fun j =>
 S.at' (S.grp (S.desV (Min.min nq (20)) fun j => tq (j + aq))) j))) ∧
 List.length
 (Prod.snd
 (Prod.snd
 (S.mulI (S.sgB n1 (S.desV (Min.min np (20)) fun j => tp (j + ap)))
 (List.length (S.grp (S.desV (Min.min np (20)) fun j => tp (j + ap))))
 (fun j =>
 S.at' (S.grp (S.desV (Min.min np (20)) fun j => tp (j + ap))) j)
 (S.sgB n2 (S.desV (Min.min nq (20)) fun j => tq (j + aq)))
 (List.length (S.grp (S.desV (Min.min nq (20)) fun j => tq (j + aq))))
 fun j =>
 S.at' (S.grp (S.desV (Min.min nq (20)) fun j => tq (j + aq))) j))) ≤
 1000000) ∧
 0 + List.length (S.grp (S.desV (Min.min nr (20)) fun j => tr (j + ar))) ≤
 List.length (S.grp (S.desV (Min.min nr (20)) fun j => tr (j + ar))) ∧
 List.length (S.grp (S.desV (Min.min nr (20)) fun j => tr (j + ar))) ≤ 1000000))
 then (bif (decide
 ((0 + List.length (S.grp (S.desV (Min.min np (20)) fun j => tp (j + ap))) ≤
 List.length (S.grp (S.desV (Min.min np (20)) fun j => tp (j + ap))) ∧
 List.length (S.grp (S.desV (Min.min np (20)) fun j => tp (j + ap))) ≤
 1000000) ∧
 0 +
 List.length
 (Prod.snd
 (Prod.snd
 (S.mulI (S.sgB n2 (S.desV (Min.min nq (20)) fun j => tq (j + aq)))
 (List.length (S.grp (S.desV (Min.min nq (20)) fun j => tq (j + aq))))
 (fun j =>
 S.at' (S.grp (S.desV (Min.min nq (20)) fun j => tq (j + aq))) j)
 (S.sgB n3 (S.desV (Min.min nr (20)) fun j => tr (j + ar)))
 (List.length (S.grp (S.desV (Min.min nr (20)) fun j => tr (j + ar))))
 fun j =>
 S.at' (S.grp (S.desV (Min.min nr (20)) fun j => tr (j + ar))) j))) ≤
 List.length
 (Prod.snd
 (Prod.snd
 (S.mulI (S.sgB n2 (S.desV (Min.min nq (20)) fun j => tq (j + aq)))
 (List.length (S.grp (S.desV (Min.min nq (20)) fun j => tq (j + aq))))
 (fun j =>
 S.at' (S.grp (S.desV (Min.min nq (20)) fun j => tq (j + aq))) j)
 (S.sgB n3 (S.desV (Min.min nr (20)) fun j => tr (j + ar)))
 (List.length (S.grp (S.desV (Min.min nr (20)) fun j => tr (j + ar))))
 fun j =>
 S.at' (S.grp (S.desV (Min.min nr (20)) fun j => tr (j + ar))) j))) ∧
 List.length
 (Prod.snd
 (Prod.snd
 (S.mulI (S.sgB n2 (S.desV (Min.min nq (20)) fun j => tq (j + aq)))
 (List.length (S.grp (S.desV (Min.min nq (20)) fun j => tq (j + aq))))
 (fun j =>
 S.at' (S.grp (S.desV (Min.min nq (20)) fun j => tq (j + aq))) j)
 (S.sgB n3 (S.desV (Min.min nr (20)) fun j => tr (j + ar)))
 (List.length (S.grp (S.desV (Min.min nr (20)) fun j => tr (j + ar))))
 fun j =>
 S.at' (S.grp (S.desV (Min.min nr (20)) fun j => tr (j + ar))) j))) ≤
 1000000))
 then (some (.inl (.h0 ((0 : Int)) (Prod.snd
 (Prod.snd
 (S.mulI (S.sgB n1 (S.desV (Min.min np (20)) fun j => tp (j + ap)))
 (List.length (S.grp (S.desV (Min.min np (20)) fun j => tp (j + ap))))
 (fun j =>
 S.at' (S.grp (S.desV (Min.min np (20)) fun j => tp (j + ap))) j)
 (S.sgB n2 (S.desV (Min.min nq (20)) fun j => tq (j + aq)))
 (List.length (S.grp (S.desV (Min.min nq (20)) fun j => tq (j + aq)))) fun j =>
 S.at' (S.grp (S.desV (Min.min nq (20)) fun j => tq (j + aq))) j))) (Prod.snd
 (Prod.snd
 (S.mulI (S.sgB n2 (S.desV (Min.min nq (20)) fun j => tq (j + aq)))
 (List.length (S.grp (S.desV (Min.min nq (20)) fun j => tq (j + aq))))
 (fun j =>
 S.at' (S.grp (S.desV (Min.min nq (20)) fun j => tq (j + aq))) j)
 (S.sgB n1 (S.desV (Min.min np (20)) fun j => tp (j + ap)))
 (List.length (S.grp (S.desV (Min.min np (20)) fun j => tp (j + ap)))) fun j =>
 S.at' (S.grp (S.desV (Min.min np (20)) fun j => tp (j + ap))) j))) (Prod.snd
 (Prod.snd
 (S.mulI (S.sgB n1 (S.desV (Min.min np (20)) fun j => tp (j + ap)))
 (List.length (S.grp (S.desV (Min.min np (20)) fun j => tp (j + ap))))
 (fun j =>
 S.at' (S.grp (S.desV (Min.min np (20)) fun j => tp (j + ap))) j)
 (Prod.fst
 (S.addS (S.sgB n2 (S.desV (Min.min nq (20)) fun j => tq (j + aq)))
 (List.length (S.grp (S.desV (Min.min nq (20)) fun j => tq (j + aq))))
 (fun j =>
 S.at' (S.grp (S.desV (Min.min nq (20)) fun j => tq (j + aq))) j)
 (S.sgB n3 (S.desV (Min.min nr (20)) fun j => tr (j + ar)))
 (List.length (S.grp (S.desV (Min.min nr (20)) fun j => tr (j + ar))))
 fun j =>
 S.at' (S.grp (S.desV (Min.min nr (20)) fun j => tr (j + ar))) j))
 (List.length
 (Prod.snd
 (Prod.snd
 (S.addS (S.sgB n2 (S.desV (Min.min nq (20)) fun j => tq (j + aq)))
 (List.length (S.grp (S.desV (Min.min nq (20)) fun j => tq (j + aq))))
 (fun j =>
 S.at' (S.grp (S.desV (Min.min nq (20)) fun j => tq (j + aq))) j)
 (S.sgB n3 (S.desV (Min.min nr (20)) fun j => tr (j + ar)))
 (List.length (S.grp (S.desV (Min.min nr (20)) fun j => tr (j + ar))))
 fun j =>
 S.at' (S.grp (S.desV (Min.min nr (20)) fun j => tr (j + ar))) j))))
 fun j =>
 S.at'
 (Prod.snd
 (Prod.snd
 (S.addS (S.sgB n2 (S.desV (Min.min nq (20)) fun j => tq (j + aq)))
 (List.length (S.grp (S.desV (Min.min nq (20)) fun j => tq (j + aq))))
 (fun j =>
 S.at' (S.grp (S.desV (Min.min nq (20)) fun j => tq (j + aq))) j)
 (S.sgB n3 (S.desV (Min.min nr (20)) fun j => tr (j + ar)))
 (List.length (S.grp (S.desV (Min.min nr (20)) fun j => tr (j + ar))))
 fun j =>
 S.at' (S.grp (S.desV (Min.min nr (20)) fun j => tr (j + ar))) j)))
 j))) (Prod.snd
 (Prod.snd
 (S.addS
 (Prod.fst
 (S.mulI (S.sgB n1 (S.desV (Min.min np (20)) fun j => tp (j + ap)))
 (List.length (S.grp (S.desV (Min.min np (20)) fun j => tp (j + ap))))
 (fun j =>
 S.at' (S.grp (S.desV (Min.min np (20)) fun j => tp (j + ap))) j)
 (S.sgB n2 (S.desV (Min.min nq (20)) fun j => tq (j + aq)))
 (List.length (S.grp (S.desV (Min.min nq (20)) fun j => tq (j + aq))))
 fun j =>
 S.at' (S.grp (S.desV (Min.min nq (20)) fun j => tq (j + aq))) j))
 (List.length
 (Prod.snd
 (Prod.snd
 (S.mulI (S.sgB n1 (S.desV (Min.min np (20)) fun j => tp (j + ap)))
 (List.length (S.grp (S.desV (Min.min np (20)) fun j => tp (j + ap))))
 (fun j =>
 S.at' (S.grp (S.desV (Min.min np (20)) fun j => tp (j + ap))) j)
 (S.sgB n2 (S.desV (Min.min nq (20)) fun j => tq (j + aq)))
 (List.length (S.grp (S.desV (Min.min nq (20)) fun j => tq (j + aq))))
 fun j =>
 S.at' (S.grp (S.desV (Min.min nq (20)) fun j => tq (j + aq))) j))))
 (fun j =>
 S.at'
 (Prod.snd
 (Prod.snd
 (S.mulI (S.sgB n1 (S.desV (Min.min np (20)) fun j => tp (j + ap)))
 (List.length (S.grp (S.desV (Min.min np (20)) fun j => tp (j + ap))))
 (fun j =>
 S.at' (S.grp (S.desV (Min.min np (20)) fun j => tp (j + ap))) j)
 (S.sgB n2 (S.desV (Min.min nq (20)) fun j => tq (j + aq)))
 (List.length (S.grp (S.desV (Min.min nq (20)) fun j => tq (j + aq))))
 fun j =>
 S.at' (S.grp (S.desV (Min.min nq (20)) fun j => tq (j + aq))) j)))
 j)
 (Prod.fst
 (S.mulI (S.sgB n1 (S.desV (Min.min np (20)) fun j => tp (j + ap)))
 (List.length (S.grp (S.desV (Min.min np (20)) fun j => tp (j + ap))))
 (fun j =>
 S.at' (S.grp (S.desV (Min.min np (20)) fun j => tp (j + ap))) j)
 (S.sgB n3 (S.desV (Min.min nr (20)) fun j => tr (j + ar)))
 (List.length (S.grp (S.desV (Min.min nr (20)) fun j => tr (j + ar))))
 fun j =>
 S.at' (S.grp (S.desV (Min.min nr (20)) fun j => tr (j + ar))) j))
 (List.length
 (Prod.snd
 (Prod.snd
 (S.mulI (S.sgB n1 (S.desV (Min.min np (20)) fun j => tp (j + ap)))
 (List.length (S.grp (S.desV (Min.min np (20)) fun j => tp (j + ap))))
 (fun j =>
 S.at' (S.grp (S.desV (Min.min np (20)) fun j => tp (j + ap))) j)
 (S.sgB n3 (S.desV (Min.min nr (20)) fun j => tr (j + ar)))
 (List.length (S.grp (S.desV (Min.min nr (20)) fun j => tr (j + ar))))
 fun j =>
 S.at' (S.grp (S.desV (Min.min nr (20)) fun j => tr (j + ar))) j))))
 fun j =>
 S.at'
 (Prod.snd
 (Prod.snd
 (S.mulI (S.sgB n1 (S.desV (Min.min np (20)) fun j => tp (j + ap)))
 (List.length (S.grp (S.desV (Min.min np (20)) fun j => tp (j + ap))))
 (fun j =>
 S.at' (S.grp (S.desV (Min.min np (20)) fun j => tp (j + ap))) j)
 (S.sgB n3 (S.desV (Min.min nr (20)) fun j => tr (j + ar)))
 (List.length (S.grp (S.desV (Min.min nr (20)) fun j => tr (j + ar))))
 fun j =>
 S.at' (S.grp (S.desV (Min.min nr (20)) fun j => tr (j + ar))) j)))
 j))) (Prod.snd
 (Prod.snd
 (S.mulI
 (Prod.fst
 (S.mulI (S.sgB n1 (S.desV (Min.min np (20)) fun j => tp (j + ap)))
 (List.length (S.grp (S.desV (Min.min np (20)) fun j => tp (j + ap))))
 (fun j =>
 S.at' (S.grp (S.desV (Min.min np (20)) fun j => tp (j + ap))) j)
 (S.sgB n2 (S.desV (Min.min nq (20)) fun j => tq (j + aq)))
 (List.length (S.grp (S.desV (Min.min nq (20)) fun j => tq (j + aq))))
 fun j =>
 S.at' (S.grp (S.desV (Min.min nq (20)) fun j => tq (j + aq))) j))
 (List.length
 (Prod.snd
 (Prod.snd
 (S.mulI (S.sgB n1 (S.desV (Min.min np (20)) fun j => tp (j + ap)))
 (List.length (S.grp (S.desV (Min.min np (20)) fun j => tp (j + ap))))
 (fun j =>
 S.at' (S.grp (S.desV (Min.min np (20)) fun j => tp (j + ap))) j)
 (S.sgB n2 (S.desV (Min.min nq (20)) fun j => tq (j + aq)))
 (List.length (S.grp (S.desV (Min.min nq (20)) fun j => tq (j + aq))))
 fun j =>
 S.at' (S.grp (S.desV (Min.min nq (20)) fun j => tq (j + aq))) j))))
 (fun j =>
 S.at'
 (Prod.snd
 (Prod.snd
 (S.mulI (S.sgB n1 (S.desV (Min.min np (20)) fun j => tp (j + ap)))
 (List.length (S.grp (S.desV (Min.min np (20)) fun j => tp (j + ap))))
 (fun j =>
 S.at' (S.grp (S.desV (Min.min np (20)) fun j => tp (j + ap))) j)
 (S.sgB n2 (S.desV (Min.min nq (20)) fun j => tq (j + aq)))
 (List.length (S.grp (S.desV (Min.min nq (20)) fun j => tq (j + aq))))
 fun j =>
 S.at' (S.grp (S.desV (Min.min nq (20)) fun j => tq (j + aq))) j)))
 j)
 (S.sgB n3 (S.desV (Min.min nr (20)) fun j => tr (j + ar)))
 (List.length (S.grp (S.desV (Min.min nr (20)) fun j => tr (j + ar)))) fun j =>
 S.at' (S.grp (S.desV (Min.min nr (20)) fun j => tr (j + ar))) j))) (Prod.snd
 (Prod.snd
 (S.mulI (S.sgB n1 (S.desV (Min.min np (20)) fun j => tp (j + ap)))
 (List.length (S.grp (S.desV (Min.min np (20)) fun j => tp (j + ap))))
 (fun j =>
 S.at' (S.grp (S.desV (Min.min np (20)) fun j => tp (j + ap))) j)
 (Prod.fst
 (S.mulI (S.sgB n2 (S.desV (Min.min nq (20)) fun j => tq (j + aq)))
 (List.length (S.grp (S.desV (Min.min nq (20)) fun j => tq (j + aq))))
 (fun j =>
 S.at' (S.grp (S.desV (Min.min nq (20)) fun j => tq (j + aq))) j)
 (S.sgB n3 (S.desV (Min.min nr (20)) fun j => tr (j + ar)))
 (List.length (S.grp (S.desV (Min.min nr (20)) fun j => tr (j + ar))))
 fun j =>
 S.at' (S.grp (S.desV (Min.min nr (20)) fun j => tr (j + ar))) j))
 (List.length
 (Prod.snd
 (Prod.snd
 (S.mulI (S.sgB n2 (S.desV (Min.min nq (20)) fun j => tq (j + aq)))
 (List.length (S.grp (S.desV (Min.min nq (20)) fun j => tq (j + aq))))
 (fun j =>
 S.at' (S.grp (S.desV (Min.min nq (20)) fun j => tq (j + aq))) j)
 (S.sgB n3 (S.desV (Min.min nr (20)) fun j => tr (j + ar)))
 (List.length (S.grp (S.desV (Min.min nr (20)) fun j => tr (j + ar))))
 fun j =>
 S.at' (S.grp (S.desV (Min.min nr (20)) fun j => tr (j + ar))) j))))
 fun j =>
 S.at'
 (Prod.snd
 (Prod.snd
 (S.mulI (S.sgB n2 (S.desV (Min.min nq (20)) fun j => tq (j + aq)))
 (List.length (S.grp (S.desV (Min.min nq (20)) fun j => tq (j + aq))))
 (fun j =>
 S.at' (S.grp (S.desV (Min.min nq (20)) fun j => tq (j + aq))) j)
 (S.sgB n3 (S.desV (Min.min nr (20)) fun j => tr (j + ar)))
 (List.length (S.grp (S.desV (Min.min nr (20)) fun j => tr (j + ar))))
 fun j =>
 S.at' (S.grp (S.desV (Min.min nr (20)) fun j => tr (j + ar))) j)))
 j))) ([Prod.fst
 (Prod.snd
 (S.mulI (S.sgB n1 (S.desV (Min.min np (20)) fun j => tp (j + ap)))
 (List.length (S.grp (S.desV (Min.min np (20)) fun j => tp (j + ap))))
 (fun j =>
 S.at' (S.grp (S.desV (Min.min np (20)) fun j => tp (j + ap))) j)
 (S.sgB n2 (S.desV (Min.min nq (20)) fun j => tq (j + aq)))
 (List.length (S.grp (S.desV (Min.min nq (20)) fun j => tq (j + aq))))
 fun j =>
 S.at' (S.grp (S.desV (Min.min nq (20)) fun j => tq (j + aq))) j)),
 Prod.fst
 (Prod.snd
 (S.mulI (S.sgB n2 (S.desV (Min.min nq (20)) fun j => tq (j + aq)))
 (List.length (S.grp (S.desV (Min.min nq (20)) fun j => tq (j + aq))))
 (fun j =>
 S.at' (S.grp (S.desV (Min.min nq (20)) fun j => tq (j + aq))) j)
 (S.sgB n1 (S.desV (Min.min np (20)) fun j => tp (j + ap)))
 (List.length (S.grp (S.desV (Min.min np (20)) fun j => tp (j + ap))))
 fun j =>
 S.at' (S.grp (S.desV (Min.min np (20)) fun j => tp (j + ap))) j)),
 Prod.fst
 (Prod.snd
 (S.mulI (S.sgB n1 (S.desV (Min.min np (20)) fun j => tp (j + ap)))
 (List.length (S.grp (S.desV (Min.min np (20)) fun j => tp (j + ap))))
 (fun j =>
 S.at' (S.grp (S.desV (Min.min np (20)) fun j => tp (j + ap))) j)
 (S.sgB n3 (S.desV (Min.min nr (20)) fun j => tr (j + ar)))
 (List.length (S.grp (S.desV (Min.min nr (20)) fun j => tr (j + ar))))
 fun j =>
 S.at' (S.grp (S.desV (Min.min nr (20)) fun j => tr (j + ar))) j)),
 Prod.fst
 (Prod.snd
 (S.mulI (S.sgB n1 (S.desV (Min.min np (20)) fun j => tp (j + ap)))
 (List.length (S.grp (S.desV (Min.min np (20)) fun j => tp (j + ap))))
 (fun j =>
 S.at' (S.grp (S.desV (Min.min np (20)) fun j => tp (j + ap))) j)
 (Prod.fst
 (S.addS (S.sgB n2 (S.desV (Min.min nq (20)) fun j => tq (j + aq)))
 (List.length (S.grp (S.desV (Min.min nq (20)) fun j => tq (j + aq))))
 (fun j =>
 S.at' (S.grp (S.desV (Min.min nq (20)) fun j => tq (j + aq))) j)
 (S.sgB n3 (S.desV (Min.min nr (20)) fun j => tr (j + ar)))
 (List.length (S.grp (S.desV (Min.min nr (20)) fun j => tr (j + ar))))
 fun j =>
 S.at' (S.grp (S.desV (Min.min nr (20)) fun j => tr (j + ar))) j))
 (List.length
 (Prod.snd
 (Prod.snd
 (S.addS (S.sgB n2 (S.desV (Min.min nq (20)) fun j => tq (j + aq)))
 (List.length (S.grp (S.desV (Min.min nq (20)) fun j => tq (j + aq))))
 (fun j =>
 S.at' (S.grp (S.desV (Min.min nq (20)) fun j => tq (j + aq))) j)
 (S.sgB n3 (S.desV (Min.min nr (20)) fun j => tr (j + ar)))
 (List.length (S.grp (S.desV (Min.min nr (20)) fun j => tr (j + ar))))
 fun j =>
 S.at' (S.grp (S.desV (Min.min nr (20)) fun j => tr (j + ar))) j))))
 fun j =>
 S.at'
 (Prod.snd
 (Prod.snd
 (S.addS (S.sgB n2 (S.desV (Min.min nq (20)) fun j => tq (j + aq)))
 (List.length (S.grp (S.desV (Min.min nq (20)) fun j => tq (j + aq))))
 (fun j =>
 S.at' (S.grp (S.desV (Min.min nq (20)) fun j => tq (j + aq))) j)
 (S.sgB n3 (S.desV (Min.min nr (20)) fun j => tr (j + ar)))
 (List.length (S.grp (S.desV (Min.min nr (20)) fun j => tr (j + ar))))
 fun j =>
 S.at' (S.grp (S.desV (Min.min nr (20)) fun j => tr (j + ar))) j)))
 j)),
 Prod.fst
 (Prod.snd
 (S.addS
 (Prod.fst
 (S.mulI (S.sgB n1 (S.desV (Min.min np (20)) fun j => tp (j + ap)))
 (List.length (S.grp (S.desV (Min.min np (20)) fun j => tp (j + ap))))
 (fun j =>
 S.at' (S.grp (S.desV (Min.min np (20)) fun j => tp (j + ap))) j)
 (S.sgB n2 (S.desV (Min.min nq (20)) fun j => tq (j + aq)))
 (List.length (S.grp (S.desV (Min.min nq (20)) fun j => tq (j + aq))))
 fun j =>
 S.at' (S.grp (S.desV (Min.min nq (20)) fun j => tq (j + aq))) j))
 (List.length
 (Prod.snd
 (Prod.snd
 (S.mulI (S.sgB n1 (S.desV (Min.min np (20)) fun j => tp (j + ap)))
 (List.length (S.grp (S.desV (Min.min np (20)) fun j => tp (j + ap))))
 (fun j =>
 S.at' (S.grp (S.desV (Min.min np (20)) fun j => tp (j + ap))) j)
 (S.sgB n2 (S.desV (Min.min nq (20)) fun j => tq (j + aq)))
 (List.length (S.grp (S.desV (Min.min nq (20)) fun j => tq (j + aq))))
 fun j =>
 S.at' (S.grp (S.desV (Min.min nq (20)) fun j => tq (j + aq))) j))))
 (fun j =>
 S.at'
 (Prod.snd
 (Prod.snd
 (S.mulI (S.sgB n1 (S.desV (Min.min np (20)) fun j => tp (j + ap)))
 (List.length (S.grp (S.desV (Min.min np (20)) fun j => tp (j + ap))))
 (fun j =>
 S.at' (S.grp (S.desV (Min.min np (20)) fun j => tp (j + ap))) j)
 (S.sgB n2 (S.desV (Min.min nq (20)) fun j => tq (j + aq)))
 (List.length (S.grp (S.desV (Min.min nq (20)) fun j => tq (j + aq))))
 fun j =>
 S.at' (S.grp (S.desV (Min.min nq (20)) fun j => tq (j + aq))) j)))
 j)
 (Prod.fst
 (S.mulI (S.sgB n1 (S.desV (Min.min np (20)) fun j => tp (j + ap)))
 (List.length (S.grp (S.desV (Min.min np (20)) fun j => tp (j + ap))))
 (fun j =>
 S.at' (S.grp (S.desV (Min.min np (20)) fun j => tp (j + ap))) j)
 (S.sgB n3 (S.desV (Min.min nr (20)) fun j => tr (j + ar)))
 (List.length (S.grp (S.desV (Min.min nr (20)) fun j => tr (j + ar))))
 fun j =>
 S.at' (S.grp (S.desV (Min.min nr (20)) fun j => tr (j + ar))) j))
 (List.length
 (Prod.snd
 (Prod.snd
 (S.mulI (S.sgB n1 (S.desV (Min.min np (20)) fun j => tp (j + ap)))
 (List.length (S.grp (S.desV (Min.min np (20)) fun j => tp (j + ap))))
 (fun j =>
 S.at' (S.grp (S.desV (Min.min np (20)) fun j => tp (j + ap))) j)
 (S.sgB n3 (S.desV (Min.min nr (20)) fun j => tr (j + ar)))
 (List.length (S.grp (S.desV (Min.min nr (20)) fun j => tr (j + ar))))
 fun j =>
 S.at' (S.grp (S.desV (Min.min nr (20)) fun j => tr (j + ar))) j))))
 fun j =>
 S.at'
 (Prod.snd
 (Prod.snd
 (S.mulI (S.sgB n1 (S.desV (Min.min np (20)) fun j => tp (j + ap)))
 (List.length (S.grp (S.desV (Min.min np (20)) fun j => tp (j + ap))))
 (fun j =>
 S.at' (S.grp (S.desV (Min.min np (20)) fun j => tp (j + ap))) j)
 (S.sgB n3 (S.desV (Min.min nr (20)) fun j => tr (j + ar)))
 (List.length (S.grp (S.desV (Min.min nr (20)) fun j => tr (j + ar))))
 fun j =>
 S.at' (S.grp (S.desV (Min.min nr (20)) fun j => tr (j + ar))) j)))
 j)),
 Prod.fst
 (Prod.snd
 (S.mulI
 (Prod.fst
 (S.mulI (S.sgB n1 (S.desV (Min.min np (20)) fun j => tp (j + ap)))
 (List.length (S.grp (S.desV (Min.min np (20)) fun j => tp (j + ap))))
 (fun j =>
 S.at' (S.grp (S.desV (Min.min np (20)) fun j => tp (j + ap))) j)
 (S.sgB n2 (S.desV (Min.min nq (20)) fun j => tq (j + aq)))
 (List.length (S.grp (S.desV (Min.min nq (20)) fun j => tq (j + aq))))
 fun j =>
 S.at' (S.grp (S.desV (Min.min nq (20)) fun j => tq (j + aq))) j))
 (List.length
 (Prod.snd
 (Prod.snd
 (S.mulI (S.sgB n1 (S.desV (Min.min np (20)) fun j => tp (j + ap)))
 (List.length (S.grp (S.desV (Min.min np (20)) fun j => tp (j + ap))))
 (fun j =>
 S.at' (S.grp (S.desV (Min.min np (20)) fun j => tp (j + ap))) j)
 (S.sgB n2 (S.desV (Min.min nq (20)) fun j => tq (j + aq)))
 (List.length (S.grp (S.desV (Min.min nq (20)) fun j => tq (j + aq))))
 fun j =>
 S.at' (S.grp (S.desV (Min.min nq (20)) fun j => tq (j + aq))) j))))
 (fun j =>
 S.at'
 (Prod.snd
 (Prod.snd
 (S.mulI (S.sgB n1 (S.desV (Min.min np (20)) fun j => tp (j + ap)))
 (List.length (S.grp (S.desV (Min.min np (20)) fun j => tp (j + ap))))
 (fun j =>
 S.at' (S.grp (S.desV (Min.min np (20)) fun j => tp (j + ap))) j)
 (S.sgB n2 (S.desV (Min.min nq (20)) fun j => tq (j + aq)))
 (List.length (S.grp (S.desV (Min.min nq (20)) fun j => tq (j + aq))))
 fun j =>
 S.at' (S.grp (S.desV (Min.min nq (20)) fun j => tq (j + aq))) j)))
 j)
 (S.sgB n3 (S.desV (Min.min nr (20)) fun j => tr (j + ar)))
 (List.length (S.grp (S.desV (Min.min nr (20)) fun j => tr (j + ar))))
 fun j =>
 S.at' (S.grp (S.desV (Min.min nr (20)) fun j => tr (j + ar))) j)),
 Prod.fst
 (Prod.snd
 (S.mulI (S.sgB n2 (S.desV (Min.min nq (20)) fun j => tq (j + aq)))
 (List.length (S.grp (S.desV (Min.min nq (20)) fun j => tq (j + aq))))
 (fun j =>
 S.at' (S.grp (S.desV (Min.min nq (20)) fun j => tq (j + aq))) j)
 (S.sgB n3 (S.desV (Min.min nr (20)) fun j => tr (j + ar)))
 (List.length (S.grp (S.desV (Min.min nr (20)) fun j => tr (j + ar))))
 fun j =>
 S.at' (S.grp (S.desV (Min.min nr (20)) fun j => tr (j + ar))) j)),
 Prod.fst
 (Prod.snd
 (S.mulI (S.sgB n1 (S.desV (Min.min np (20)) fun j => tp (j + ap)))
 (List.length (S.grp (S.desV (Min.min np (20)) fun j => tp (j + ap))))
 (fun j =>
 S.at' (S.grp (S.desV (Min.min np (20)) fun j => tp (j + ap))) j)
 (Prod.fst
 (S.mulI (S.sgB n2 (S.desV (Min.min nq (20)) fun j => tq (j + aq)))
 (List.length (S.grp (S.desV (Min.min nq (20)) fun j => tq (j + aq))))
 (fun j =>
 S.at' (S.grp (S.desV (Min.min nq (20)) fun j => tq (j + aq))) j)
 (S.sgB n3 (S.desV (Min.min nr (20)) fun j => tr (j + ar)))
 (List.length (S.grp (S.desV (Min.min nr (20)) fun j => tr (j + ar))))
 fun j =>
 S.at' (S.grp (S.desV (Min.min nr (20)) fun j => tr (j + ar))) j))
 (List.length
 (Prod.snd
 (Prod.snd
 (S.mulI (S.sgB n2 (S.desV (Min.min nq (20)) fun j => tq (j + aq)))
 (List.length (S.grp (S.desV (Min.min nq (20)) fun j => tq (j + aq))))
 (fun j =>
 S.at' (S.grp (S.desV (Min.min nq (20)) fun j => tq (j + aq))) j)
 (S.sgB n3 (S.desV (Min.min nr (20)) fun j => tr (j + ar)))
 (List.length (S.grp (S.desV (Min.min nr (20)) fun j => tr (j + ar))))
 fun j =>
 S.at' (S.grp (S.desV (Min.min nr (20)) fun j => tr (j + ar))) j))))
 fun j =>
 S.at'
 (Prod.snd
 (Prod.snd
 (S.mulI (S.sgB n2 (S.desV (Min.min nq (20)) fun j => tq (j + aq)))
 (List.length (S.grp (S.desV (Min.min nq (20)) fun j => tq (j + aq))))
 (fun j =>
 S.at' (S.grp (S.desV (Min.min nq (20)) fun j => tq (j + aq))) j)
 (S.sgB n3 (S.desV (Min.min nr (20)) fun j => tr (j + ar)))
 (List.length (S.grp (S.desV (Min.min nr (20)) fun j => tr (j + ar))))
 fun j =>
 S.at' (S.grp (S.desV (Min.min nr (20)) fun j => tr (j + ar))) j)))
 j))]))))
 else (none))
 else (none))
 else (none))
 else (none))
 else (some (.inr (false))))
 else (none))
 else (some (.inr (false))))
 else (none)))))))
 else (none))
 else (none))
 else (none))
 else (none))
 else (none))
 else (none))
 else (none))
 else (none)
noncomputable def Te7 (test : Bool → Prop → Prop → Prop) (Kst : KS) (Kret : KR) (n1 : Bool) (ap np mp : Nat) (tp : Nat → Int) (n2 : Bool) (aq nq mq : Nat) (tq : Nat → Int) (n3 : Bool) (ar nr mr : Nat) (tr : Nat → Int) : Prop :=
  test (true)
 (test (true)
 (test (decide (ap + np ≤ mp ∧ S.u32B (fun j => tp (j + ap)) np = true))
 (test (decide (aq + nq ≤ mq ∧ S.u32B (fun j => tq (j + aq)) nq = true))
 (test (decide (ar + nr ≤ mr ∧ S.u32B (fun j => tr (j + ar)) nr = true))
 (test (decide
 ((0 + List.length (S.grp (S.desV (Min.min np (20)) fun j => tp (j + ap))) ≤
 List.length (S.grp (S.desV (Min.min np (20)) fun j => tp (j + ap))) ∧
 List.length (S.grp (S.desV (Min.min np (20)) fun j => tp (j + ap))) ≤
 1000000) ∧
 0 + List.length (S.grp (S.desV (Min.min nq (20)) fun j => tq (j + aq))) ≤
 List.length (S.grp (S.desV (Min.min nq (20)) fun j => tq (j + aq))) ∧
 List.length (S.grp (S.desV (Min.min nq (20)) fun j => tq (j + aq))) ≤ 1000000))
 (test (decide
 ((0 + List.length (S.grp (S.desV (Min.min nq (20)) fun j => tq (j + aq))) ≤
 List.length (S.grp (S.desV (Min.min nq (20)) fun j => tq (j + aq))) ∧
 List.length (S.grp (S.desV (Min.min nq (20)) fun j => tq (j + aq))) ≤
 1000000) ∧
 0 + List.length (S.grp (S.desV (Min.min np (20)) fun j => tp (j + ap))) ≤
 List.length (S.grp (S.desV (Min.min np (20)) fun j => tp (j + ap))) ∧
 List.length (S.grp (S.desV (Min.min np (20)) fun j => tp (j + ap))) ≤ 1000000))
 (test (decide
 ((0 + List.length (S.grp (S.desV (Min.min nq (20)) fun j => tq (j + aq))) ≤
 List.length (S.grp (S.desV (Min.min nq (20)) fun j => tq (j + aq))) ∧
 List.length (S.grp (S.desV (Min.min nq (20)) fun j => tq (j + aq))) ≤
 1000000) ∧
 0 + List.length (S.grp (S.desV (Min.min nr (20)) fun j => tr (j + ar))) ≤
 List.length (S.grp (S.desV (Min.min nr (20)) fun j => tr (j + ar))) ∧
 List.length (S.grp (S.desV (Min.min nr (20)) fun j => tr (j + ar))) ≤ 1000000))
 (test (decide
 ((0 +
 List.length
 (Prod.snd
 (Prod.snd
 (S.addS (S.sgB n1 (S.desV (Min.min np (20)) fun j => tp (j + ap)))
 (List.length (S.grp (S.desV (Min.min np (20)) fun j => tp (j + ap))))
 (fun j =>
 S.at' (S.grp (S.desV (Min.min np (20)) fun j => tp (j + ap))) j)
 (S.sgB n2 (S.desV (Min.min nq (20)) fun j => tq (j + aq)))
 (List.length (S.grp (S.desV (Min.min nq (20)) fun j => tq (j + aq))))
 fun j =>
 S.at' (S.grp (S.desV (Min.min nq (20)) fun j => tq (j + aq))) j))) ≤
 List.length
 (Prod.snd
 (Prod.snd
 (S.addS (S.sgB n1 (S.desV (Min.min np (20)) fun j => tp (j + ap)))
 (List.length (S.grp (S.desV (Min.min np (20)) fun j => tp (j + ap))))
 (fun j =>
 S.at' (S.grp (S.desV (Min.min np (20)) fun j => tp (j + ap))) j)
 (S.sgB n2 (S.desV (Min.min nq (20)) fun j => tq (j + aq)))
 (List.length (S.grp (S.desV (Min.min nq (20)) fun j => tq (j + aq))))
 fun j =>
 S.at' (S.grp (S.desV (Min.min nq (20)) fun j => tq (j + aq))) j))) ∧
 List.length
 (Prod.snd
 (Prod.snd
 (S.addS (S.sgB n1 (S.desV (Min.min np (20)) fun j => tp (j + ap)))
 (List.length (S.grp (S.desV (Min.min np (20)) fun j => tp (j + ap))))
 (fun j =>
 S.at' (S.grp (S.desV (Min.min np (20)) fun j => tp (j + ap))) j)
 (S.sgB n2 (S.desV (Min.min nq (20)) fun j => tq (j + aq)))
 (List.length (S.grp (S.desV (Min.min nq (20)) fun j => tq (j + aq))))
 fun j =>
 S.at' (S.grp (S.desV (Min.min nq (20)) fun j => tq (j + aq))) j))) ≤
 1000000) ∧
 0 + List.length (S.grp (S.desV (Min.min nr (20)) fun j => tr (j + ar))) ≤
 List.length (S.grp (S.desV (Min.min nr (20)) fun j => tr (j + ar))) ∧
 List.length (S.grp (S.desV (Min.min nr (20)) fun j => tr (j + ar))) ≤ 1000000))
 (test (decide
 ((0 + List.length (S.grp (S.desV (Min.min np (20)) fun j => tp (j + ap))) ≤
 List.length (S.grp (S.desV (Min.min np (20)) fun j => tp (j + ap))) ∧
 List.length (S.grp (S.desV (Min.min np (20)) fun j => tp (j + ap))) ≤
 1000000) ∧
 0 +
 List.length
 (Prod.snd
 (Prod.snd
 (S.addS (S.sgB n2 (S.desV (Min.min nq (20)) fun j => tq (j + aq)))
 (List.length (S.grp (S.desV (Min.min nq (20)) fun j => tq (j + aq))))
 (fun j =>
 S.at' (S.grp (S.desV (Min.min nq (20)) fun j => tq (j + aq))) j)
 (S.sgB n3 (S.desV (Min.min nr (20)) fun j => tr (j + ar)))
 (List.length (S.grp (S.desV (Min.min nr (20)) fun j => tr (j + ar))))
 fun j =>
 S.at' (S.grp (S.desV (Min.min nr (20)) fun j => tr (j + ar))) j))) ≤
 List.length
 (Prod.snd
 (Prod.snd
 (S.addS (S.sgB n2 (S.desV (Min.min nq (20)) fun j => tq (j + aq)))
 (List.length (S.grp (S.desV (Min.min nq (20)) fun j => tq (j + aq))))
 (fun j =>
 S.at' (S.grp (S.desV (Min.min nq (20)) fun j => tq (j + aq))) j)
 (S.sgB n3 (S.desV (Min.min nr (20)) fun j => tr (j + ar)))
 (List.length (S.grp (S.desV (Min.min nr (20)) fun j => tr (j + ar))))
 fun j =>
 S.at' (S.grp (S.desV (Min.min nr (20)) fun j => tr (j + ar))) j))) ∧
 List.length
 (Prod.snd
 (Prod.snd
 (S.addS (S.sgB n2 (S.desV (Min.min nq (20)) fun j => tq (j + aq)))
 (List.length (S.grp (S.desV (Min.min nq (20)) fun j => tq (j + aq))))
 (fun j =>
 S.at' (S.grp (S.desV (Min.min nq (20)) fun j => tq (j + aq))) j)
 (S.sgB n3 (S.desV (Min.min nr (20)) fun j => tr (j + ar)))
 (List.length (S.grp (S.desV (Min.min nr (20)) fun j => tr (j + ar))))
 fun j =>
 S.at' (S.grp (S.desV (Min.min nr (20)) fun j => tr (j + ar))) j))) ≤
 1000000))
 (test (Prod.fst
 (Prod.snd
 (S.addS (S.sgB n1 (S.desV (Min.min np (20)) fun j => tp (j + ap)))
 (List.length (S.grp (S.desV (Min.min np (20)) fun j => tp (j + ap))))
 (fun j =>
 S.at' (S.grp (S.desV (Min.min np (20)) fun j => tp (j + ap))) j)
 (S.sgB n2 (S.desV (Min.min nq (20)) fun j => tq (j + aq)))
 (List.length (S.grp (S.desV (Min.min nq (20)) fun j => tq (j + aq))))
 fun j =>
 S.at' (S.grp (S.desV (Min.min nq (20)) fun j => tq (j + aq))) j)) !=
 (0 : Int))
 (Kret (PV.tf false) ([[(2, false, Blk.cols mr [Col.int IntKind.u32 tr]),
 (1, false, Blk.cols mq [Col.int IntKind.u32 tq]),
 (0, false, Blk.cols mp [Col.int IntKind.u32 tp])]]) (31))
 (test (Prod.fst
 (Prod.snd
 (S.addS (S.sgB n2 (S.desV (Min.min nq (20)) fun j => tq (j + aq)))
 (List.length (S.grp (S.desV (Min.min nq (20)) fun j => tq (j + aq))))
 (fun j =>
 S.at' (S.grp (S.desV (Min.min nq (20)) fun j => tq (j + aq))) j)
 (S.sgB n1 (S.desV (Min.min np (20)) fun j => tp (j + ap)))
 (List.length (S.grp (S.desV (Min.min np (20)) fun j => tp (j + ap))))
 fun j =>
 S.at' (S.grp (S.desV (Min.min np (20)) fun j => tp (j + ap))) j)) !=
 (0 : Int))
 (Kret (PV.tf false) ([[(2, false, Blk.cols mr [Col.int IntKind.u32 tr]),
 (1, false, Blk.cols mq [Col.int IntKind.u32 tq]),
 (0, false, Blk.cols mp [Col.int IntKind.u32 tp])]]) (31))
 (test (Prod.fst
 (Prod.snd
 (S.addS (S.sgB n2 (S.desV (Min.min nq (20)) fun j => tq (j + aq)))
 (List.length (S.grp (S.desV (Min.min nq (20)) fun j => tq (j + aq))))
 (fun j =>
 S.at' (S.grp (S.desV (Min.min nq (20)) fun j => tq (j + aq))) j)
 (S.sgB n3 (S.desV (Min.min nr (20)) fun j => tr (j + ar)))
 (List.length (S.grp (S.desV (Min.min nr (20)) fun j => tr (j + ar))))
 fun j =>
 S.at' (S.grp (S.desV (Min.min nr (20)) fun j => tr (j + ar))) j)) !=
 (0 : Int))
 (Kret (PV.tf false) ([[(2, false, Blk.cols mr [Col.int IntKind.u32 tr]),
 (1, false, Blk.cols mq [Col.int IntKind.u32 tq]),
 (0, false, Blk.cols mp [Col.int IntKind.u32 tp])]]) (31))
 (test (Prod.fst
 (Prod.snd
 (S.addS
 (Prod.fst
 (S.addS (S.sgB n1 (S.desV (Min.min np (20)) fun j => tp (j + ap)))
 (List.length (S.grp (S.desV (Min.min np (20)) fun j => tp (j + ap))))
 (fun j =>
 S.at' (S.grp (S.desV (Min.min np (20)) fun j => tp (j + ap))) j)
 (S.sgB n2 (S.desV (Min.min nq (20)) fun j => tq (j + aq)))
 (List.length (S.grp (S.desV (Min.min nq (20)) fun j => tq (j + aq))))
 fun j =>
 S.at' (S.grp (S.desV (Min.min nq (20)) fun j => tq (j + aq))) j))
 (List.length
 (Prod.snd
 (Prod.snd
 (S.addS (S.sgB n1 (S.desV (Min.min np (20)) fun j => tp (j + ap)))
 (List.length (S.grp (S.desV (Min.min np (20)) fun j => tp (j + ap))))
 (fun j =>
 S.at' (S.grp (S.desV (Min.min np (20)) fun j => tp (j + ap))) j)
 (S.sgB n2 (S.desV (Min.min nq (20)) fun j => tq (j + aq)))
 (List.length (S.grp (S.desV (Min.min nq (20)) fun j => tq (j + aq))))
 fun j =>
 S.at' (S.grp (S.desV (Min.min nq (20)) fun j => tq (j + aq))) j))))
 (fun j =>
 S.at'
 (Prod.snd
 (Prod.snd
 (S.addS (S.sgB n1 (S.desV (Min.min np (20)) fun j => tp (j + ap)))
 (List.length (S.grp (S.desV (Min.min np (20)) fun j => tp (j + ap))))
 (fun j =>
 S.at' (S.grp (S.desV (Min.min np (20)) fun j => tp (j + ap))) j)
 (S.sgB n2 (S.desV (Min.min nq (20)) fun j => tq (j + aq)))
 (List.length (S.grp (S.desV (Min.min nq (20)) fun j => tq (j + aq))))
 fun j =>
 S.at' (S.grp (S.desV (Min.min nq (20)) fun j => tq (j + aq))) j)))
 j)
 (S.sgB n3 (S.desV (Min.min nr (20)) fun j => tr (j + ar)))
 (List.length (S.grp (S.desV (Min.min nr (20)) fun j => tr (j + ar))))
 fun j =>
 S.at' (S.grp (S.desV (Min.min nr (20)) fun j => tr (j + ar))) j)) !=
 (0 : Int))
 (Kret (PV.tf false) ([[(2, false, Blk.cols mr [Col.int IntKind.u32 tr]),
 (1, false, Blk.cols mq [Col.int IntKind.u32 tq]),
 (0, false, Blk.cols mp [Col.int IntKind.u32 tp])]]) (31))
 (test (Prod.fst
 (Prod.snd
 (S.addS (S.sgB n1 (S.desV (Min.min np (20)) fun j => tp (j + ap)))
 (List.length (S.grp (S.desV (Min.min np (20)) fun j => tp (j + ap))))
 (fun j =>
 S.at' (S.grp (S.desV (Min.min np (20)) fun j => tp (j + ap))) j)
 (Prod.fst
 (S.addS (S.sgB n2 (S.desV (Min.min nq (20)) fun j => tq (j + aq)))
 (List.length (S.grp (S.desV (Min.min nq (20)) fun j => tq (j + aq))))
 (fun j =>
 S.at' (S.grp (S.desV (Min.min nq (20)) fun j => tq (j + aq))) j)
 (S.sgB n3 (S.desV (Min.min nr (20)) fun j => tr (j + ar)))
 (List.length (S.grp (S.desV (Min.min nr (20)) fun j => tr (j + ar))))
 fun j =>
 S.at' (S.grp (S.desV (Min.min nr (20)) fun j => tr (j + ar))) j))
 (List.length
 (Prod.snd
 (Prod.snd
 (S.addS (S.sgB n2 (S.desV (Min.min nq (20)) fun j => tq (j + aq)))
 (List.length (S.grp (S.desV (Min.min nq (20)) fun j => tq (j + aq))))
 (fun j =>
 S.at' (S.grp (S.desV (Min.min nq (20)) fun j => tq (j + aq))) j)
 (S.sgB n3 (S.desV (Min.min nr (20)) fun j => tr (j + ar)))
 (List.length (S.grp (S.desV (Min.min nr (20)) fun j => tr (j + ar))))
 fun j =>
 S.at' (S.grp (S.desV (Min.min nr (20)) fun j => tr (j + ar))) j))))
 fun j =>
 S.at'
 (Prod.snd
 (Prod.snd
 (S.addS (S.sgB n2 (S.desV (Min.min nq (20)) fun j => tq (j + aq)))
 (List.length (S.grp (S.desV (Min.min nq (20)) fun j => tq (j + aq))))
 (fun j =>
 S.at' (S.grp (S.desV (Min.min nq (20)) fun j => tq (j + aq))) j)
 (S.sgB n3 (S.desV (Min.min nr (20)) fun j => tr (j + ar)))
 (List.length (S.grp (S.desV (Min.min nr (20)) fun j => tr (j + ar))))
 fun j =>
 S.at' (S.grp (S.desV (Min.min nr (20)) fun j => tr (j + ar))) j)))
 j)) !=
 (0 : Int))
 (Kret (PV.tf false) ([[(2, false, Blk.cols mr [Col.int IntKind.u32 tr]),
 (1, false, Blk.cols mq [Col.int IntKind.u32 tq]),
 (0, false, Blk.cols mp [Col.int IntKind.u32 tp])]]) (31))
 (test (decide
 ((0 +
 List.length
 (Prod.snd
 (Prod.snd
 (S.addS (S.sgB n1 (S.desV (Min.min np (20)) fun j => tp (j + ap)))
 (List.length (S.grp (S.desV (Min.min np (20)) fun j => tp (j + ap))))
 (fun j =>
 S.at' (S.grp (S.desV (Min.min np (20)) fun j => tp (j + ap))) j)
 (S.sgB n2 (S.desV (Min.min nq (20)) fun j => tq (j + aq)))
 (List.length (S.grp (S.desV (Min.min nq (20)) fun j => tq (j + aq))))
 fun j =>
 S.at' (S.grp (S.desV (Min.min nq (20)) fun j => tq (j + aq))) j))) ≤
 List.length
 (Prod.snd
 (Prod.snd
 (S.addS (S.sgB n1 (S.desV (Min.min np (20)) fun j => tp (j + ap)))
 (List.length (S.grp (S.desV (Min.min np (20)) fun j => tp (j + ap))))
 (fun j =>
 S.at' (S.grp (S.desV (Min.min np (20)) fun j => tp (j + ap))) j)
 (S.sgB n2 (S.desV (Min.min nq (20)) fun j => tq (j + aq)))
 (List.length (S.grp (S.desV (Min.min nq (20)) fun j => tq (j + aq))))
 fun j =>
 S.at' (S.grp (S.desV (Min.min nq (20)) fun j => tq (j + aq))) j))) ∧
 List.length
 (Prod.snd
 (Prod.snd
 (S.addS (S.sgB n1 (S.desV (Min.min np (20)) fun j => tp (j + ap)))
 (List.length (S.grp (S.desV (Min.min np (20)) fun j => tp (j + ap))))
 (fun j =>
 S.at' (S.grp (S.desV (Min.min np (20)) fun j => tp (j + ap))) j)
 (S.sgB n2 (S.desV (Min.min nq (20)) fun j => tq (j + aq)))
 (List.length (S.grp (S.desV (Min.min nq (20)) fun j => tq (j + aq))))
 fun j =>
 S.at' (S.grp (S.desV (Min.min nq (20)) fun j => tq (j + aq))) j))) ≤
 1000000) ∧
 0 +
 List.length
 (Prod.snd
 (Prod.snd
 (S.addS (S.sgB n2 (S.desV (Min.min nq (20)) fun j => tq (j + aq)))
 (List.length (S.grp (S.desV (Min.min nq (20)) fun j => tq (j + aq))))
 (fun j =>
 S.at' (S.grp (S.desV (Min.min nq (20)) fun j => tq (j + aq))) j)
 (S.sgB n1 (S.desV (Min.min np (20)) fun j => tp (j + ap)))
 (List.length (S.grp (S.desV (Min.min np (20)) fun j => tp (j + ap))))
 fun j =>
 S.at' (S.grp (S.desV (Min.min np (20)) fun j => tp (j + ap))) j))) ≤
 List.length
 (Prod.snd
 (Prod.snd
 (S.addS (S.sgB n2 (S.desV (Min.min nq (20)) fun j => tq (j + aq)))
 (List.length (S.grp (S.desV (Min.min nq (20)) fun j => tq (j + aq))))
 (fun j =>
 S.at' (S.grp (S.desV (Min.min nq (20)) fun j => tq (j + aq))) j)
 (S.sgB n1 (S.desV (Min.min np (20)) fun j => tp (j + ap)))
 (List.length (S.grp (S.desV (Min.min np (20)) fun j => tp (j + ap))))
 fun j =>
 S.at' (S.grp (S.desV (Min.min np (20)) fun j => tp (j + ap))) j))) ∧
 List.length
 (Prod.snd
 (Prod.snd
 (S.addS (S.sgB n2 (S.desV (Min.min nq (20)) fun j => tq (j + aq)))
 (List.length (S.grp (S.desV (Min.min nq (20)) fun j => tq (j + aq))))
 (fun j =>
 S.at' (S.grp (S.desV (Min.min nq (20)) fun j => tq (j + aq))) j)
 (S.sgB n1 (S.desV (Min.min np (20)) fun j => tp (j + ap)))
 (List.length (S.grp (S.desV (Min.min np (20)) fun j => tp (j + ap))))
 fun j =>
 S.at' (S.grp (S.desV (Min.min np (20)) fun j => tp (j + ap))) j))) ≤
 1000000))
 (test (S.samI
 (Prod.fst
 (S.addS (S.sgB n1 (S.desV (Min.min np (20)) fun j => tp (j + ap)))
 (List.length (S.grp (S.desV (Min.min np (20)) fun j => tp (j + ap))))
 (fun j =>
 S.at' (S.grp (S.desV (Min.min np (20)) fun j => tp (j + ap))) j)
 (S.sgB n2 (S.desV (Min.min nq (20)) fun j => tq (j + aq)))
 (List.length (S.grp (S.desV (Min.min nq (20)) fun j => tq (j + aq)))) fun j =>
 S.at' (S.grp (S.desV (Min.min nq (20)) fun j => tq (j + aq))) j))
 (List.length
 (Prod.snd
 (Prod.snd
 (S.addS (S.sgB n1 (S.desV (Min.min np (20)) fun j => tp (j + ap)))
 (List.length (S.grp (S.desV (Min.min np (20)) fun j => tp (j + ap))))
 (fun j =>
 S.at' (S.grp (S.desV (Min.min np (20)) fun j => tp (j + ap))) j)
 (S.sgB n2 (S.desV (Min.min nq (20)) fun j => tq (j + aq)))
 (List.length (S.grp (S.desV (Min.min nq (20)) fun j => tq (j + aq))))
 fun j =>
 S.at' (S.grp (S.desV (Min.min nq (20)) fun j => tq (j + aq))) j))))
 (fun j =>
 S.at'
 (Prod.snd
 (Prod.snd
 (S.addS (S.sgB n1 (S.desV (Min.min np (20)) fun j => tp (j + ap)))
 (List.length (S.grp (S.desV (Min.min np (20)) fun j => tp (j + ap))))
 (fun j =>
 S.at' (S.grp (S.desV (Min.min np (20)) fun j => tp (j + ap))) j)
 (S.sgB n2 (S.desV (Min.min nq (20)) fun j => tq (j + aq)))
 (List.length (S.grp (S.desV (Min.min nq (20)) fun j => tq (j + aq))))
 fun j =>
 S.at' (S.grp (S.desV (Min.min nq (20)) fun j => tq (j + aq))) j)))
 j)
 (Prod.fst
 (S.addS (S.sgB n2 (S.desV (Min.min nq (20)) fun j => tq (j + aq)))
 (List.length (S.grp (S.desV (Min.min nq (20)) fun j => tq (j + aq))))
 (fun j =>
 S.at' (S.grp (S.desV (Min.min nq (20)) fun j => tq (j + aq))) j)
 (S.sgB n1 (S.desV (Min.min np (20)) fun j => tp (j + ap)))
 (List.length (S.grp (S.desV (Min.min np (20)) fun j => tp (j + ap)))) fun j =>
 S.at' (S.grp (S.desV (Min.min np (20)) fun j => tp (j + ap))) j))
 (List.length
 (Prod.snd
 (Prod.snd
 (S.addS (S.sgB n2 (S.desV (Min.min nq (20)) fun j => tq (j + aq)))
 (List.length (S.grp (S.desV (Min.min nq (20)) fun j => tq (j + aq))))
 (fun j =>
 S.at' (S.grp (S.desV (Min.min nq (20)) fun j => tq (j + aq))) j)
 (S.sgB n1 (S.desV (Min.min np (20)) fun j => tp (j + ap)))
 (List.length (S.grp (S.desV (Min.min np (20)) fun j => tp (j + ap))))
 fun j =>
 S.at' (S.grp (S.desV (Min.min np (20)) fun j => tp (j + ap))) j))))
 fun j =>
 S.at'
 (Prod.snd
 (Prod.snd
 (S.addS (S.sgB n2 (S.desV (Min.min nq (20)) fun j => tq (j + aq)))
 (List.length (S.grp (S.desV (Min.min nq (20)) fun j => tq (j + aq))))
 (fun j =>
 S.at' (S.grp (S.desV (Min.min nq (20)) fun j => tq (j + aq))) j)
 (S.sgB n1 (S.desV (Min.min np (20)) fun j => tp (j + ap)))
 (List.length (S.grp (S.desV (Min.min np (20)) fun j => tp (j + ap))))
 fun j =>
 S.at' (S.grp (S.desV (Min.min np (20)) fun j => tp (j + ap))) j)))
 j)
 (test (decide
 ((0 +
 List.length
 (Prod.snd
 (Prod.snd
 (S.addS
 (Prod.fst
 (S.addS (S.sgB n1 (S.desV (Min.min np (20)) fun j => tp (j + ap)))
 (List.length (S.grp (S.desV (Min.min np (20)) fun j => tp (j + ap))))
 (fun j =>
 S.at' (S.grp (S.desV (Min.min np (20)) fun j => tp (j + ap)))
 j)
 (S.sgB n2 (S.desV (Min.min nq (20)) fun j => tq (j + aq)))
 (List.length (S.grp (S.desV (Min.min nq (20)) fun j => tq (j + aq))))
 fun j =>
 S.at' (S.grp (S.desV (Min.min nq (20)) fun j => tq (j + aq)))
 j))
 (List.length
 (Prod.snd
 (Prod.snd
 (S.addS
 (S.sgB n1 (S.desV (Min.min np (20)) fun j => tp (j + ap)))
 (List.length
 (S.grp (S.desV (Min.min np (20)) fun j => tp (j + ap))))
 (fun j =>
 S.at'
 (S.grp (S.desV (Min.min np (20)) fun j => tp (j + ap))) j)
 (S.sgB n2 (S.desV (Min.min nq (20)) fun j => tq (j + aq)))
 (List.length
 (S.grp (S.desV (Min.min nq (20)) fun j => tq (j + aq))))
 fun j =>
 S.at'
 (S.grp (S.desV (Min.min nq (20)) fun j => tq (j + aq))) j))))
 (fun j =>
 S.at'
 (Prod.snd
 (Prod.snd
 (S.addS
 (S.sgB n1 (S.desV (Min.min np (20)) fun j => tp (j + ap)))
 (List.length
 (S.grp (S.desV (Min.min np (20)) fun j => tp (j + ap))))
 (fun j =>
 S.at'
 (S.grp (S.desV (Min.min np (20)) fun j => tp (j + ap))) j)
 (S.sgB n2 (S.desV (Min.min nq (20)) fun j => tq (j + aq)))
 (List.length
 (S.grp (S.desV (Min.min nq (20)) fun j => tq (j + aq))))
 fun j =>
 S.at'
 (S.grp (S.desV (Min.min nq (20)) fun j => tq (j + aq))) j)))
 j)
 (S.sgB n3 (S.desV (Min.min nr (20)) fun j => tr (j + ar)))
 (List.length (S.grp (S.desV (Min.min nr (20)) fun j => tr (j + ar))))
 fun j =>
 S.at' (S.grp (S.desV (Min.min nr (20)) fun j => tr (j + ar))) j))) ≤
 List.length
 (Prod.snd
 (Prod.snd
 (S.addS
 (Prod.fst
 (S.addS (S.sgB n1 (S.desV (Min.min np (20)) fun j => tp (j + ap)))
 (List.length (S.grp (S.desV (Min.min np (20)) fun j => tp (j + ap))))
 (fun j =>
 S.at' (S.grp (S.desV (Min.min np (20)) fun j => tp (j + ap))) j)
 (S.sgB n2 (S.desV (Min.min nq (20)) fun j => tq (j + aq)))
 (List.length (S.grp (S.desV (Min.min nq (20)) fun j => tq (j + aq))))
 fun j =>
 S.at' (S.grp (S.desV (Min.min nq (20)) fun j => tq (j + aq))) j))
 (List.length
 (Prod.snd
 (Prod.snd
 (S.addS
 (S.sgB n1 (S.desV (Min.min np (20)) fun j => tp (j + ap)))
 (List.length
 (S.grp (S.desV (Min.min np (20)) fun j => tp (j + ap))))
 (fun j =>
 S.at'
 (S.grp (S.desV (Min.min np (20)) fun j => tp (j + ap))) j)
 (S.sgB n2 (S.desV (Min.min nq (20)) fun j => tq (j + aq)))
 (List.length
 (S.grp (S.desV (Min.min nq (20)) fun j => tq (j + aq))))
 fun j =>
 S.at' (S.grp (S.desV (Min.min nq (20)) fun j => tq (j + aq)))
 j))))
 (fun j =>
 S.at'
 (Prod.snd
 (Prod.snd
 (S.addS
 (S.sgB n1 (S.desV (Min.min np (20)) fun j => tp (j + ap)))
 (List.length
 (S.grp (S.desV (Min.min np (20)) fun j => tp (j + ap))))
 (fun j =>
 S.at'
 (S.grp (S.desV (Min.min np (20)) fun j => tp (j + ap))) j)
 (S.sgB n2 (S.desV (Min.min nq (20)) fun j => tq (j + aq)))
 (List.length
 (S.grp (S.desV (Min.min nq (20)) fun j => tq (j + aq))))
 fun j =>
 S.at'
 (S.grp (S.desV (Min.min nq (20)) fun j => tq (j + aq))) j)))
 j)
 (S.sgB n3 (S.desV (Min.min nr (20)) fun j => tr (j + ar)))
 (List.length (S.grp (S.desV (Min.min nr (20)) fun j => tr (j + ar))))
 fun j =>
 S.at' (S.grp (S.desV (Min.min nr (20)) fun j => tr (j + ar))) j))) ∧
 List.length
 (Prod.snd
 (Prod.snd
 (S.addS
 (Prod.fst
 (S.addS (S.sgB n1 (S.desV (Min.min np (20)) fun j => tp (j + ap)))
 (List.length (S.grp (S.desV (Min.min np (20)) fun j => tp (j + ap))))
 (fun j =>
 S.at' (S.grp (S.desV (Min.min np (20)) fun j => tp (j + ap))) j)
 (S.sgB n2 (S.desV (Min.min nq (20)) fun j => tq (j + aq)))
 (List.length (S.grp (S.desV (Min.min nq (20)) fun j => tq (j + aq))))
 fun j =>
 S.at' (S.grp (S.desV (Min.min nq (20)) fun j => tq (j + aq))) j))
 (List.length
 (Prod.snd
 (Prod.snd
 (S.addS
 (S.sgB n1 (S.desV (Min.min np (20)) fun j => tp (j + ap)))
 (List.length
 (S.grp (S.desV (Min.min np (20)) fun j => tp (j + ap))))
 (fun j =>
 S.at'
 (S.grp (S.desV (Min.min np (20)) fun j => tp (j + ap))) j)
 (S.sgB n2 (S.desV (Min.min nq (20)) fun j => tq (j + aq)))
 (List.length
 (S.grp (S.desV (Min.min nq (20)) fun j => tq (j + aq))))
 fun j =>
 S.at' (S.grp (S.desV (Min.min nq (20)) fun j => tq (j + aq)))
 j))))
 (fun j =>
 S.at'
 (Prod.snd
 (Prod.snd
 (S.addS
 (S.sgB n1 (S.desV (Min.min np (20)) fun j => tp (j + ap)))
 (List.length
 (S.grp (S.desV (Min.min np (20)) fun j => tp (j + ap))))
 (fun j =>
 S.at'
 (S.grp (S.desV (Min.min np (20)) fun j => tp (j + ap))) j)
 (S.sgB n2 (S.desV (Min.min nq (20)) fun j => tq (j + aq)))
 (List.length
 (S.grp (S.desV (Min.min nq (20)) fun j => tq (j + aq))))
 fun j =>
 S.at'
 (S.grp (S.desV (Min.min nq (20)) fun j => tq (j + aq))) j)))
 j)
 (S.sgB n3 (S.desV (Min.min nr (20)) fun j => tr (j + ar)))
 (List.length (S.grp (S.desV (Min.min nr (20)) fun j => tr (j + ar))))
 fun j =>
 S.at' (S.grp (S.desV (Min.min nr (20)) fun j => tr (j + ar))) j))) ≤
 1000000) ∧
 0 +
 List.length
 (Prod.snd
 (Prod.snd
 (S.addS (S.sgB n1 (S.desV (Min.min np (20)) fun j => tp (j + ap)))
 (List.length (S.grp (S.desV (Min.min np (20)) fun j => tp (j + ap))))
 (fun j =>
 S.at' (S.grp (S.desV (Min.min np (20)) fun j => tp (j + ap))) j)
 (Prod.fst
 (S.addS (S.sgB n2 (S.desV (Min.min nq (20)) fun j => tq (j + aq)))
 (List.length (S.grp (S.desV (Min.min nq (20)) fun j => tq (j + aq))))
 (fun j =>
 S.at' (S.grp (S.desV (Min.min nq (20)) fun j => tq (j + aq)))
 j)
 (S.sgB n3 (S.desV (Min.min nr (20)) fun j => tr (j + ar)))
 (List.length (S.grp (S.desV (Min.min nr (20)) fun j => tr (j + ar))))
 fun j =>
 S.at' (S.grp (S.desV (Min.min nr (20)) fun j => tr (j + ar)))
 j))
 (List.length
 (Prod.snd
 (Prod.snd
 (S.addS
 (S.sgB n2 (S.desV (Min.min nq (20)) fun j => tq (j + aq)))
 (List.length
 (S.grp (S.desV (Min.min nq (20)) fun j => tq (j + aq))))
 (fun j =>
 S.at'
 (S.grp (S.desV (Min.min nq (20)) fun j => tq (j + aq))) j)
 (S.sgB n3 (S.desV (Min.min nr (20)) fun j => tr (j + ar)))
 (List.length
 (S.grp (S.desV (Min.min nr (20)) fun j => tr (j + ar))))
 fun j =>
 S.at'
 (S.grp (S.desV (Min.min nr (20)) fun j => tr (j + ar))) j))))
 fun j =>
 S.at'
 (Prod.snd
 (Prod.snd
 (S.addS
 (S.sgB n2 (S.desV (Min.min nq (20)) fun j => tq (j + aq)))
 (List.length
 (S.grp (S.desV (Min.min nq (20)) fun j => tq (j + aq))))
 (fun j =>
 S.at'
 (S.grp (S.desV (Min.min nq (20)) fun j => tq (j + aq))) j)
 (S.sgB n3 (S.desV (Min.min nr (20)) fun j => tr (j + ar)))
 (List.length
 (S.grp (S.desV (Min.min nr (20)) fun j => tr (j + ar))))
 fun j =>
 S.at'
 (S.grp (S.desV (Min.min nr (20)) fun j => tr (j + ar))) j)))
 j))) ≤
 List.length
 (Prod.snd
 (Prod.snd
 (S.addS (S.sgB n1 (S.desV (Min.min np (20)) fun j => tp (j + ap)))
 (List.length (S.grp (S.desV (Min.min np (20)) fun j => tp (j + ap))))
 (fun j =>
 S.at' (S.grp (S.desV (Min.min np (20)) fun j => tp (j + ap))) j)
 (Prod.fst
 (S.addS (S.sgB n2 (S.desV (Min.min nq (20)) fun j => tq (j + aq)))
 (List.length (S.grp (S.desV (Min.min nq (20)) fun j => tq (j + aq))))
 (fun j =>
 S.at' (S.grp (S.desV (Min.min nq (20)) fun j => tq (j + aq))) j)
 (S.sgB n3 (S.desV (Min.min nr (20)) fun j => tr (j + ar)))
 (List.length (S.grp (S.desV (Min.min nr (20)) fun j => tr (j + ar))))
 fun j =>
 S.at' (S.grp (S.desV (Min.min nr (20)) fun j => tr (j + ar))) j))
 (List.length
 (Prod.snd
 (Prod.snd
 (S.addS
 (S.sgB n2 (S.desV (Min.min nq (20)) fun j => tq (j + aq)))
 (List.length
 (S.grp (S.desV (Min.min nq (20)) fun j => tq (j + aq))))
 (fun j =>
 S.at'
 (S.grp (S.desV (Min.min nq (20)) fun j => tq (j + aq))) j)
 (S.sgB n3 (S.desV (Min.min nr (20)) fun j => tr (j + ar)))
 (List.length
 (S.grp (S.desV (Min.min nr (20)) fun j => tr (j + ar))))
 fun j =>
 S.at' (S.grp (S.desV (Min.min nr (20)) fun j => tr (j + ar)))
 j))))
 fun j =>
 S.at'
 (Prod.snd
 (Prod.snd
 (S.addS
 (S.sgB n2 (S.desV (Min.min nq (20)) fun j => tq (j + aq)))
 (List.length
 (S.grp (S.desV (Min.min nq (20)) fun j => tq (j + aq))))
 (fun j =>
 S.at'
 (S.grp (S.desV (Min.min nq (20)) fun j => tq (j + aq))) j)
 (S.sgB n3 (S.desV (Min.min nr (20)) fun j => tr (j + ar)))
 (List.length
 (S.grp (S.desV (Min.min nr (20)) fun j => tr (j + ar))))
 fun j =>
 S.at' (S.grp (S.desV (Min.min nr (20)) fun j => tr (j + ar)))
 j)))
 j))) ∧
 List.length
 (Prod.snd
 (Prod.snd
 (S.addS (S.sgB n1 (S.desV (Min.min np (20)) fun j => tp (j + ap)))
 (List.length (S.grp (S.desV (Min.min np (20)) fun j => tp (j + ap))))
 (fun j =>
 S.at' (S.grp (S.desV (Min.min np (20)) fun j => tp (j + ap))) j)
 (Prod.fst
 (S.addS (S.sgB n2 (S.desV (Min.min nq (20)) fun j => tq (j + aq)))
 (List.length (S.grp (S.desV (Min.min nq (20)) fun j => tq (j + aq))))
 (fun j =>
 S.at' (S.grp (S.desV (Min.min nq (20)) fun j => tq (j + aq))) j)
 (S.sgB n3 (S.desV (Min.min nr (20)) fun j => tr (j + ar)))
 (List.length (S.grp (S.desV (Min.min nr (20)) fun j => tr (j + ar))))
 fun j =>
 S.at' (S.grp (S.desV (Min.min nr (20)) fun j => tr (j + ar))) j))
 (List.length
 (Prod.snd
 (Prod.snd
 (S.addS
 (S.sgB n2 (S.desV (Min.min nq (20)) fun j => tq (j + aq)))
 (List.length
 (S.grp (S.desV (Min.min nq (20)) fun j => tq (j + aq))))
 (fun j =>
 S.at'
 (S.grp (S.desV (Min.min nq (20)) fun j => tq (j + aq))) j)
 (S.sgB n3 (S.desV (Min.min nr (20)) fun j => tr (j + ar)))
 (List.length
 (S.grp (S.desV (Min.min nr (20)) fun j => tr (j + ar))))
 fun j =>
 S.at' (S.grp (S.desV (Min.min nr (20)) fun j => tr (j + ar)))
 j))))
 fun j =>
 S.at'
 (Prod.snd
 (Prod.snd
 (S.addS
 (S.sgB n2 (S.desV (Min.min nq (20)) fun j => tq (j + aq)))
 (List.length
 (S.grp (S.desV (Min.min nq (20)) fun j => tq (j + aq))))
 (fun j =>
 S.at'
 (S.grp (S.desV (Min.min nq (20)) fun j => tq (j + aq))) j)
 (S.sgB n3 (S.desV (Min.min nr (20)) fun j => tr (j + ar)))
 (List.length
 (S.grp (S.desV (Min.min nr (20)) fun j => tr (j + ar))))
 fun j =>
 S.at' (S.grp (S.desV (Min.min nr (20)) fun j => tr (j + ar)))
 j)))
 j))) ≤
 1000000))
 (test (S.samI
 (Prod.fst
 (S.addS
 (Prod.fst
 (S.addS (S.sgB n1 (S.desV (Min.min np (20)) fun j => tp (j + ap)))
 (List.length (S.grp (S.desV (Min.min np (20)) fun j => tp (j + ap))))
 (fun j =>
 S.at' (S.grp (S.desV (Min.min np (20)) fun j => tp (j + ap))) j)
 (S.sgB n2 (S.desV (Min.min nq (20)) fun j => tq (j + aq)))
 (List.length (S.grp (S.desV (Min.min nq (20)) fun j => tq (j + aq))))
 fun j =>
 S.at' (S.grp (S.desV (Min.min nq (20)) fun j => tq (j + aq))) j))
 (List.length
 (Prod.snd
 (Prod.snd
 (S.addS (S.sgB n1 (S.desV (Min.min np (20)) fun j => tp (j + ap)))
 (List.length (S.grp (S.desV (Min.min np (20)) fun j => tp (j + ap))))
 (fun j =>
 S.at' (S.grp (S.desV (Min.min np (20)) fun j => tp (j + ap))) j)
 (S.sgB n2 (S.desV (Min.min nq (20)) fun j => tq (j + aq)))
 (List.length (S.grp (S.desV (Min.min nq (20)) fun j => tq (j + aq))))
 fun j =>
 S.at' (S.grp (S.desV (Min.min nq (20)) fun j => tq (j + aq))) j))))
 (fun j =>
 S.at'
 (Prod.snd
 (Prod.snd
 (S.addS (S.sgB n1 (S.desV (Min.min np (20)) fun j => tp (j + ap)))
 (List.length (S.grp (S.desV (Min.min np (20)) fun j => tp (j + ap))))
 (fun j =>
 S.at' (S.grp (S.desV (Min.min np (20)) fun j => tp (j + ap))) j)
 (S.sgB n2 (S.desV (Min.min nq (20)) fun j => tq (j + aq)))
 (List.length (S.grp (S.desV (Min.min nq (20)) fun j => tq (j + aq))))
 fun j =>
 S.at' (S.grp (S.desV (Min.min nq (20)) fun j => tq (j + aq))) j)))
 j)
 (S.sgB n3 (S.desV (Min.min nr (20)) fun j => tr (j + ar)))
 (List.length (S.grp (S.desV (Min.min nr (20)) fun j => tr (j + ar)))) fun j =>
 S.at' (S.grp (S.desV (Min.min nr (20)) fun j => tr (j + ar))) j))
 (List.length
 (Prod.snd
 (Prod.snd
 (S.addS
 (Prod.fst
 (S.addS (S.sgB n1 (S.desV (Min.min np (20)) fun j => tp (j + ap)))
 (List.length (S.grp (S.desV (Min.min np (20)) fun j => tp (j + ap))))
 (fun j =>
 S.at' (S.grp (S.desV (Min.min np (20)) fun j => tp (j + ap))) j)
 (S.sgB n2 (S.desV (Min.min nq (20)) fun j => tq (j + aq)))
 (List.length (S.grp (S.desV (Min.min nq (20)) fun j => tq (j + aq))))
 fun j =>
 S.at' (S.grp (S.desV (Min.min nq (20)) fun j => tq (j + aq))) j))
 (List.length
 (Prod.snd
 (Prod.snd
 (S.addS (S.sgB n1 (S.desV (Min.min np (20)) fun j => tp (j + ap)))
 (List.length (S.grp (S.desV (Min.min np (20)) fun j => tp (j + ap))))
 (fun j =>
 S.at' (S.grp (S.desV (Min.min np (20)) fun j => tp (j + ap))) j)
 (S.sgB n2 (S.desV (Min.min nq (20)) fun j => tq (j + aq)))
 (List.length (S.grp (S.desV (Min.min nq (20)) fun j => tq (j + aq))))
 fun j =>
 S.at' (S.grp (S.desV (Min.min nq (20)) fun j => tq (j + aq))) j))))
 (fun j =>
 S.at'
 (Prod.snd
 (Prod.snd
 (S.addS (S.sgB n1 (S.desV (Min.min np (20)) fun j => tp (j + ap)))
 (List.length (S.grp (S.desV (Min.min np (20)) fun j => tp (j + ap))))
 (fun j =>
 S.at' (S.grp (S.desV (Min.min np (20)) fun j => tp (j + ap))) j)
 (S.sgB n2 (S.desV (Min.min nq (20)) fun j => tq (j + aq)))
 (List.length (S.grp (S.desV (Min.min nq (20)) fun j => tq (j + aq))))
 fun j =>
 S.at' (S.grp (S.desV (Min.min nq (20)) fun j => tq (j + aq))) j)))
 j)
 (S.sgB n3 (S.desV (Min.min nr (20)) fun j => tr (j + ar)))
 (List.length (S.grp (S.desV (Min.min nr (20)) fun j => tr (j + ar))))
 fun j =>
 S.at' (S.grp (S.desV (Min.min nr (20)) fun j => tr (j + ar))) j))))
 (fun j =>
 S.at'
 (Prod.snd
 (Prod.snd
 (S.addS
 (Prod.fst
 (S.addS (S.sgB n1 (S.desV (Min.min np (20)) fun j => tp (j + ap)))
 (List.length (S.grp (S.desV (Min.min np (20)) fun j => tp (j + ap))))
 (fun j =>
 S.at' (S.grp (S.desV (Min.min np (20)) fun j => tp (j + ap))) j)
 (S.sgB n2 (S.desV (Min.min nq (20)) fun j => tq (j + aq)))
 (List.length (S.grp (S.desV (Min.min nq (20)) fun j => tq (j + aq))))
 fun j =>
 S.at' (S.grp (S.desV (Min.min nq (20)) fun j => tq (j + aq))) j))
 (List.length
 (Prod.snd
 (Prod.snd
 (S.addS (S.sgB n1 (S.desV (Min.min np (20)) fun j => tp (j + ap)))
 (List.length (S.grp (S.desV (Min.min np (20)) fun j => tp (j + ap))))
 (fun j =>
 S.at' (S.grp (S.desV (Min.min np (20)) fun j => tp (j + ap))) j)
 (S.sgB n2 (S.desV (Min.min nq (20)) fun j => tq (j + aq)))
 (List.length (S.grp (S.desV (Min.min nq (20)) fun j => tq (j + aq))))
 fun j =>
 S.at' (S.grp (S.desV (Min.min nq (20)) fun j => tq (j + aq)))
 j))))
 (fun j =>
 S.at'
 (Prod.snd
 (Prod.snd
 (S.addS (S.sgB n1 (S.desV (Min.min np (20)) fun j => tp (j + ap)))
 (List.length (S.grp (S.desV (Min.min np (20)) fun j => tp (j + ap))))
 (fun j =>
 S.at' (S.grp (S.desV (Min.min np (20)) fun j => tp (j + ap)))
 j)
 (S.sgB n2 (S.desV (Min.min nq (20)) fun j => tq (j + aq)))
 (List.length (S.grp (S.desV (Min.min nq (20)) fun j => tq (j + aq))))
 fun j =>
 S.at' (S.grp (S.desV (Min.min nq (20)) fun j => tq (j + aq)))
 j)))
 j)
 (S.sgB n3 (S.desV (Min.min nr (20)) fun j => tr (j + ar)))
 (List.length (S.grp (S.desV (Min.min nr (20)) fun j => tr (j + ar))))
 fun j =>
 S.at' (S.grp (S.desV (Min.min nr (20)) fun j => tr (j + ar))) j)))
 j)
 (Prod.fst
 (S.addS (S.sgB n1 (S.desV (Min.min np (20)) fun j => tp (j + ap)))
 (List.length (S.grp (S.desV (Min.min np (20)) fun j => tp (j + ap))))
 (fun j =>
 S.at' (S.grp (S.desV (Min.min np (20)) fun j => tp (j + ap))) j)
 (Prod.fst
 (S.addS (S.sgB n2 (S.desV (Min.min nq (20)) fun j => tq (j + aq)))
 (List.length (S.grp (S.desV (Min.min nq (20)) fun j => tq (j + aq))))
 (fun j =>
 S.at' (S.grp (S.desV (Min.min nq (20)) fun j => tq (j + aq))) j)
 (S.sgB n3 (S.desV (Min.min nr (20)) fun j => tr (j + ar)))
 (List.length (S.grp (S.desV (Min.min nr (20)) fun j => tr (j + ar))))
 fun j =>
 S.at' (S.grp (S.desV (Min.min nr (20)) fun j => tr (j + ar))) j))
 (List.length
 (Prod.snd
 (Prod.snd
 (S.addS (S.sgB n2 (S.desV (Min.min nq (20)) fun j => tq (j + aq)))
 (List.length (S.grp (S.desV (Min.min nq (20)) fun j => tq (j + aq))))
 (fun j =>
 S.at' (S.grp (S.desV (Min.min nq (20)) fun j => tq (j + aq))) j)
 (S.sgB n3 (S.desV (Min.min nr (20)) fun j => tr (j + ar)))
 (List.length (S.grp (S.desV (Min.min nr (20)) fun j => tr (j + ar))))
 fun j =>
 S.at' (S.grp (S.desV (Min.min nr (20)) fun j => tr (j + ar))) j))))
 fun j =>
 S.at'
 (Prod.snd
 (Prod.snd
 (S.addS (S.sgB n2 (S.desV (Min.min nq (20)) fun j => tq (j + aq)))
 (List.length (S.grp (S.desV (Min.min nq (20)) fun j => tq (j + aq))))
 (fun j =>
 S.at' (S.grp (S.desV (Min.min nq (20)) fun j => tq (j + aq))) j)
 (S.sgB n3 (S.desV (Min.min nr (20)) fun j => tr (j + ar)))
 (List.length (S.grp (S.desV (Min.min nr (20)) fun j => tr (j + ar))))
 fun j =>
 S.at' (S.grp (S.desV (Min.min nr (20)) fun j => tr (j + ar))) j)))
 j))
 (List.length
 (Prod.snd
 (Prod.snd
 (S.addS (S.sgB n1 (S.desV (Min.min np (20)) fun j => tp (j + ap)))
 (List.length (S.grp (S.desV (Min.min np (20)) fun j => tp (j + ap))))
 (fun j =>
 S.at' (S.grp (S.desV (Min.min np (20)) fun j => tp (j + ap))) j)
 (Prod.fst
 (S.addS (S.sgB n2 (S.desV (Min.min nq (20)) fun j => tq (j + aq)))
 (List.length (S.grp (S.desV (Min.min nq (20)) fun j => tq (j + aq))))
 (fun j =>
 S.at' (S.grp (S.desV (Min.min nq (20)) fun j => tq (j + aq))) j)
 (S.sgB n3 (S.desV (Min.min nr (20)) fun j => tr (j + ar)))
 (List.length (S.grp (S.desV (Min.min nr (20)) fun j => tr (j + ar))))
 fun j =>
 S.at' (S.grp (S.desV (Min.min nr (20)) fun j => tr (j + ar))) j))
 (List.length
 (Prod.snd
 (Prod.snd
 (S.addS (S.sgB n2 (S.desV (Min.min nq (20)) fun j => tq (j + aq)))
 (List.length (S.grp (S.desV (Min.min nq (20)) fun j => tq (j + aq))))
 (fun j =>
 S.at' (S.grp (S.desV (Min.min nq (20)) fun j => tq (j + aq))) j)
 (S.sgB n3 (S.desV (Min.min nr (20)) fun j => tr (j + ar)))
 (List.length (S.grp (S.desV (Min.min nr (20)) fun j => tr (j + ar))))
 fun j =>
 S.at' (S.grp (S.desV (Min.min nr (20)) fun j => tr (j + ar))) j))))
 fun j =>
 S.at'
 (Prod.snd
 (Prod.snd
 (S.addS (S.sgB n2 (S.desV (Min.min nq (20)) fun j => tq (j + aq)))
 (List.length (S.grp (S.desV (Min.min nq (20)) fun j => tq (j + aq))))
 (fun j =>
 S.at' (S.grp (S.desV (Min.min nq (20)) fun j => tq (j + aq))) j)
 (S.sgB n3 (S.desV (Min.min nr (20)) fun j => tr (j + ar)))
 (List.length (S.grp (S.desV (Min.min nr (20)) fun j => tr (j + ar))))
 fun j =>
 S.at' (S.grp (S.desV (Min.min nr (20)) fun j => tr (j + ar))) j)))
 j))))
 fun j =>
 S.at'
 (Prod.snd
 (Prod.snd
 (S.addS (S.sgB n1 (S.desV (Min.min np (20)) fun j => tp (j + ap)))
 (List.length (S.grp (S.desV (Min.min np (20)) fun j => tp (j + ap))))
 (fun j =>
 S.at' (S.grp (S.desV (Min.min np (20)) fun j => tp (j + ap))) j)
 (Prod.fst
 (S.addS (S.sgB n2 (S.desV (Min.min nq (20)) fun j => tq (j + aq)))
 (List.length (S.grp (S.desV (Min.min nq (20)) fun j => tq (j + aq))))
 (fun j =>
 S.at' (S.grp (S.desV (Min.min nq (20)) fun j => tq (j + aq))) j)
 (S.sgB n3 (S.desV (Min.min nr (20)) fun j => tr (j + ar)))
 (List.length (S.grp (S.desV (Min.min nr (20)) fun j => tr (j + ar))))
 fun j =>
 S.at' (S.grp (S.desV (Min.min nr (20)) fun j => tr (j + ar))) j))
 (List.length
 (Prod.snd
 (Prod.snd
 (S.addS (S.sgB n2 (S.desV (Min.min nq (20)) fun j => tq (j + aq)))
 (List.length (S.grp (S.desV (Min.min nq (20)) fun j => tq (j + aq))))
 (fun j =>
 S.at' (S.grp (S.desV (Min.min nq (20)) fun j => tq (j + aq))) j)
 (S.sgB n3 (S.desV (Min.min nr (20)) fun j => tr (j + ar)))
 (List.length (S.grp (S.desV (Min.min nr (20)) fun j => tr (j + ar))))
 fun j =>
 S.at' (S.grp (S.desV (Min.min nr (20)) fun j => tr (j + ar))) j))))
 fun j =>
 S.at'
 (Prod.snd
 (Prod.snd
 (S.addS (S.sgB n2 (S.desV (Min.min nq (20)) fun j => tq (j + aq)))
 (List.length (S.grp (S.desV (Min.min nq (20)) fun j => tq (j + aq))))
 (fun j =>
 S.at' (S.grp (S.desV (Min.min nq (20)) fun j => tq (j + aq))) j)
 (S.sgB n3 (S.desV (Min.min nr (20)) fun j => tr (j + ar)))
 (List.length (S.grp (S.desV (Min.min nr (20)) fun j => tr (j + ar))))
 fun j =>
 S.at' (S.grp (S.desV (Min.min nr (20)) fun j => tr (j + ar))) j)))
 j)))
 j)
 (test (decide
 ((0 + List.length (S.grp (S.desV (Min.min np (20)) fun j => tp (j + ap))) ≤
 List.length (S.grp (S.desV (Min.min np (20)) fun j => tp (j + ap))) ∧
 List.length (S.grp (S.desV (Min.min np (20)) fun j => tp (j + ap))) ≤
 1000000) ∧
 0 + List.length (S.grp (S.desV (Min.min nq (20)) fun j => tq (j + aq))) ≤
 List.length (S.grp (S.desV (Min.min nq (20)) fun j => tq (j + aq))) ∧
 List.length (S.grp (S.desV (Min.min nq (20)) fun j => tq (j + aq))) ≤ 1000000))
 (test (decide
 ((0 + List.length (S.grp (S.desV (Min.min nq (20)) fun j => tq (j + aq))) ≤
 List.length (S.grp (S.desV (Min.min nq (20)) fun j => tq (j + aq))) ∧
 List.length (S.grp (S.desV (Min.min nq (20)) fun j => tq (j + aq))) ≤
 1000000) ∧
 0 + List.length (S.grp (S.desV (Min.min np (20)) fun j => tp (j + ap))) ≤
 List.length (S.grp (S.desV (Min.min np (20)) fun j => tp (j + ap))) ∧
 List.length (S.grp (S.desV (Min.min np (20)) fun j => tp (j + ap))) ≤ 1000000))
 (test (decide
 ((0 + List.length (S.grp (S.desV (Min.min np (20)) fun j => tp (j + ap))) ≤
 List.length (S.grp (S.desV (Min.min np (20)) fun j => tp (j + ap))) ∧
 List.length (S.grp (S.desV (Min.min np (20)) fun j => tp (j + ap))) ≤
 1000000) ∧
 0 + List.length (S.grp (S.desV (Min.min nr (20)) fun j => tr (j + ar))) ≤
 List.length (S.grp (S.desV (Min.min nr (20)) fun j => tr (j + ar))) ∧
 List.length (S.grp (S.desV (Min.min nr (20)) fun j => tr (j + ar))) ≤ 1000000))
 (test (decide
 ((0 + List.length (S.grp (S.desV (Min.min np (20)) fun j => tp (j + ap))) ≤
 List.length (S.grp (S.desV (Min.min np (20)) fun j => tp (j + ap))) ∧
 List.length (S.grp (S.desV (Min.min np (20)) fun j => tp (j + ap))) ≤
 1000000) ∧
 0 +
 List.length
 (Prod.snd
 (Prod.snd
 (S.addS (S.sgB n2 (S.desV (Min.min nq (20)) fun j => tq (j + aq)))
 (List.length (S.grp (S.desV (Min.min nq (20)) fun j => tq (j + aq))))
 (fun j =>
 S.at' (S.grp (S.desV (Min.min nq (20)) fun j => tq (j + aq))) j)
 (S.sgB n3 (S.desV (Min.min nr (20)) fun j => tr (j + ar)))
 (List.length (S.grp (S.desV (Min.min nr (20)) fun j => tr (j + ar))))
 fun j =>
 S.at' (S.grp (S.desV (Min.min nr (20)) fun j => tr (j + ar))) j))) ≤
 List.length
 (Prod.snd
 (Prod.snd
 (S.addS (S.sgB n2 (S.desV (Min.min nq (20)) fun j => tq (j + aq)))
 (List.length (S.grp (S.desV (Min.min nq (20)) fun j => tq (j + aq))))
 (fun j =>
 S.at' (S.grp (S.desV (Min.min nq (20)) fun j => tq (j + aq))) j)
 (S.sgB n3 (S.desV (Min.min nr (20)) fun j => tr (j + ar)))
 (List.length (S.grp (S.desV (Min.min nr (20)) fun j => tr (j + ar))))
 fun j =>
 S.at' (S.grp (S.desV (Min.min nr (20)) fun j => tr (j + ar))) j))) ∧
 List.length
 (Prod.snd
 (Prod.snd
 (S.addS (S.sgB n2 (S.desV (Min.min nq (20)) fun j => tq (j + aq)))
 (List.length (S.grp (S.desV (Min.min nq (20)) fun j => tq (j + aq))))
 (fun j =>
 S.at' (S.grp (S.desV (Min.min nq (20)) fun j => tq (j + aq))) j)
 (S.sgB n3 (S.desV (Min.min nr (20)) fun j => tr (j + ar)))
 (List.length (S.grp (S.desV (Min.min nr (20)) fun j => tr (j + ar))))
 fun j =>
 S.at' (S.grp (S.desV (Min.min nr (20)) fun j => tr (j + ar))) j))) ≤
 1000000))
 (test (decide
 ((0 +
 List.length
 (Prod.snd
 (Prod.snd
 (S.mulI (S.sgB n1 (S.desV (Min.min np (20)) fun j => tp (j + ap)))
 (List.length (S.grp (S.desV (Min.min np (20)) fun j => tp (j + ap))))
 (fun j =>
 S.at' (S.grp (S.desV (Min.min np (20)) fun j => tp (j + ap))) j)
 (S.sgB n2 (S.desV (Min.min nq (20)) fun j => tq (j + aq)))
 (List.length (S.grp (S.desV (Min.min nq (20)) fun j => tq (j + aq))))
 fun j =>
 S.at' (S.grp (S.desV (Min.min nq (20)) fun j => tq (j + aq))) j))) ≤
 List.length
 (Prod.snd
 (Prod.snd
 (S.mulI (S.sgB n1 (S.desV (Min.min np (20)) fun j => tp (j + ap)))
 (List.length (S.grp (S.desV (Min.min np (20)) fun j => tp (j + ap))))
 (fun j =>
 S.at' (S.grp (S.desV (Min.min np (20)) fun j => tp (j + ap))) j)
 (S.sgB n2 (S.desV (Min.min nq (20)) fun j => tq (j + aq)))
 (List.length (S.grp (S.desV (Min.min nq (20)) fun j => tq (j + aq))))
 fun j =>
 S.at' (S.grp (S.desV (Min.min nq (20)) fun j => tq (j + aq))) j))) ∧
 List.length
 (Prod.snd
 (Prod.snd
 (S.mulI (S.sgB n1 (S.desV (Min.min np (20)) fun j => tp (j + ap)))
 (List.length (S.grp (S.desV (Min.min np (20)) fun j => tp (j + ap))))
 (fun j =>
 S.at' (S.grp (S.desV (Min.min np (20)) fun j => tp (j + ap))) j)
 (S.sgB n2 (S.desV (Min.min nq (20)) fun j => tq (j + aq)))
 (List.length (S.grp (S.desV (Min.min nq (20)) fun j => tq (j + aq))))
 fun j =>
 S.at' (S.grp (S.desV (Min.min nq (20)) fun j => tq (j + aq))) j))) ≤
 1000000) ∧
 0 +
 List.length
 (Prod.snd
 (Prod.snd
 (S.mulI (S.sgB n1 (S.desV (Min.min np (20)) fun j => tp (j + ap)))
 (List.length (S.grp (S.desV (Min.min np (20)) fun j => tp (j + ap))))
 (fun j =>
 S.at' (S.grp (S.desV (Min.min np (20)) fun j => tp (j + ap))) j)
 (S.sgB n3 (S.desV (Min.min nr (20)) fun j => tr (j + ar)))
 (List.length (S.grp (S.desV (Min.min nr (20)) fun j => tr (j + ar))))
 fun j =>
 S.at' (S.grp (S.desV (Min.min nr (20)) fun j => tr (j + ar))) j))) ≤
 List.length
 (Prod.snd
 (Prod.snd
 (S.mulI (S.sgB n1 (S.desV (Min.min np (20)) fun j => tp (j + ap)))
 (List.length (S.grp (S.desV (Min.min np (20)) fun j => tp (j + ap))))
 (fun j =>
 S.at' (S.grp (S.desV (Min.min np (20)) fun j => tp (j + ap))) j)
 (S.sgB n3 (S.desV (Min.min nr (20)) fun j => tr (j + ar)))
 (List.length (S.grp (S.desV (Min.min nr (20)) fun j => tr (j + ar))))
 fun j =>
 S.at' (S.grp (S.desV (Min.min nr (20)) fun j => tr (j + ar))) j))) ∧
 List.length
 (Prod.snd
 (Prod.snd
 (S.mulI (S.sgB n1 (S.desV (Min.min np (20)) fun j => tp (j + ap)))
 (List.length (S.grp (S.desV (Min.min np (20)) fun j => tp (j + ap))))
 (fun j =>
 S.at' (S.grp (S.desV (Min.min np (20)) fun j => tp (j + ap))) j)
 (S.sgB n3 (S.desV (Min.min nr (20)) fun j => tr (j + ar)))
 (List.length (S.grp (S.desV (Min.min nr (20)) fun j => tr (j + ar))))
 fun j =>
 S.at' (S.grp (S.desV (Min.min nr (20)) fun j => tr (j + ar))) j))) ≤
 1000000))
 (test (decide
 ((0 +
 List.length
 (Prod.snd
 (Prod.snd
 (S.mulI (S.sgB n1 (S.desV (Min.min np (20)) fun j => tp (j + ap)))
 (List.length (S.grp (S.desV (Min.min np (20)) fun j => tp (j + ap))))
 (fun j =>
 S.at' (S.grp (S.desV (Min.min np (20)) fun j => tp (j + ap))) j)
 (S.sgB n2 (S.desV (Min.min nq (20)) fun j => tq (j + aq)))
 (List.length (S.grp (S.desV (Min.min nq (20)) fun j => tq (j + aq))))
 fun j =>
 S.at' (S.grp (S.desV (Min.min nq (20)) fun j => tq (j + aq))) j))) ≤
 List.length
 (Prod.snd
 (Prod.snd
 (S.mulI (S.sgB n1 (S.desV (Min.min np (20)) fun j => tp (j + ap)))
 (List.length (S.grp (S.desV (Min.min np (20)) fun j => tp (j + ap))))
 (fun j =>
 S.at' (S.grp (S.desV (Min.min np (20)) fun j => tp (j + ap))) j)
 (S.sgB n2 (S.desV (Min.min nq (20)) fun j => tq (j + aq)))
 (List.length (S.grp (S.desV (Min.min nq (20)) fun j => tq (j + aq))))
 fun j =>
 S.at' (S.grp (S.desV (Min.min nq (20)) fun j => tq (j + aq))) j))) ∧
 List.length
 (Prod.snd
 (Prod.snd
 (S.mulI (S.sgB n1 (S.desV (Min.min np (20)) fun j => tp (j + ap)))
 (List.length (S.grp (S.desV (Min.min np (20)) fun j => tp (j + ap))))
 (fun j =>
 S.at' (S.grp (S.desV (Min.min np (20)) fun j => tp (j + ap))) j)
 (S.sgB n2 (S.desV (Min.min nq (20)) fun j => tq (j + aq)))
 (List.length (S.grp (S.desV (Min.min nq (20)) fun j => tq (j + aq))))
 fun j =>
 S.at' (S.grp (S.desV (Min.min nq (20)) fun j => tq (j + aq))) j))) ≤
 1000000) ∧
 0 + List.length (S.grp (S.desV (Min.min nr (20)) fun j => tr (j + ar))) ≤
 List.length (S.grp (S.desV (Min.min nr (20)) fun j => tr (j + ar))) ∧
 List.length (S.grp (S.desV (Min.min nr (20)) fun j => tr (j + ar))) ≤ 1000000))
 (test (decide
 ((0 + List.length (S.grp (S.desV (Min.min nq (20)) fun j => tq (j + aq))) ≤
 List.length (S.grp (S.desV (Min.min nq (20)) fun j => tq (j + aq))) ∧
 List.length (S.grp (S.desV (Min.min nq (20)) fun j => tq (j + aq))) ≤
 1000000) ∧
 0 + List.length (S.grp (S.desV (Min.min nr (20)) fun j => tr (j + ar))) ≤
 List.length (S.grp (S.desV (Min.min nr (20)) fun j => tr (j + ar))) ∧
 List.length (S.grp (S.desV (Min.min nr (20)) fun j => tr (j + ar))) ≤ 1000000))
 (test (decide
 ((0 + List.length (S.grp (S.desV (Min.min np (20)) fun j => tp (j + ap))) ≤
 List.length (S.grp (S.desV (Min.min np (20)) fun j => tp (j + ap))) ∧
 List.length (S.grp (S.desV (Min.min np (20)) fun j => tp (j + ap))) ≤
 1000000) ∧
 0 +
 List.length
 (Prod.snd
 (Prod.snd
 (S.mulI (S.sgB n2 (S.desV (Min.min nq (20)) fun j => tq (j + aq)))
 (List.length (S.grp (S.desV (Min.min nq (20)) fun j => tq (j + aq))))
 (fun j =>
 S.at' (S.grp (S.desV (Min.min nq (20)) fun j => tq (j + aq))) j)
 (S.sgB n3 (S.desV (Min.min nr (20)) fun j => tr (j + ar)))
 (List.length (S.grp (S.desV (Min.min nr (20)) fun j => tr (j + ar))))
 fun j =>
 S.at' (S.grp (S.desV (Min.min nr (20)) fun j => tr (j + ar))) j))) ≤
 List.length
 (Prod.snd
 (Prod.snd
 (S.mulI (S.sgB n2 (S.desV (Min.min nq (20)) fun j => tq (j + aq)))
 (List.length (S.grp (S.desV (Min.min nq (20)) fun j => tq (j + aq))))
 (fun j =>
 S.at' (S.grp (S.desV (Min.min nq (20)) fun j => tq (j + aq))) j)
 (S.sgB n3 (S.desV (Min.min nr (20)) fun j => tr (j + ar)))
 (List.length (S.grp (S.desV (Min.min nr (20)) fun j => tr (j + ar))))
 fun j =>
 S.at' (S.grp (S.desV (Min.min nr (20)) fun j => tr (j + ar))) j))) ∧
 List.length
 (Prod.snd
 (Prod.snd
 (S.mulI (S.sgB n2 (S.desV (Min.min nq (20)) fun j => tq (j + aq)))
 (List.length (S.grp (S.desV (Min.min nq (20)) fun j => tq (j + aq))))
 (fun j =>
 S.at' (S.grp (S.desV (Min.min nq (20)) fun j => tq (j + aq))) j)
 (S.sgB n3 (S.desV (Min.min nr (20)) fun j => tr (j + ar)))
 (List.length (S.grp (S.desV (Min.min nr (20)) fun j => tr (j + ar))))
 fun j =>
 S.at' (S.grp (S.desV (Min.min nr (20)) fun j => tr (j + ar))) j))) ≤
 1000000))
 (Kst (hd Tryd.f7 0) ([PV.ptr (PA.mk (35) (0) (0) (0)),
 PV.ptr (PA.mk (38) (0) (0) (0)),
 PV.ptr (PA.mk (44) (0) (0) (0)),
 PV.ptr (PA.mk (47) (0) (0) (0)),
 PV.ptr (PA.mk (50) (0) (0) (0)),
 PV.ptr (PA.mk (56) (0) (0) (0)),
 PV.own (57) (1) (8), PV.int IntKind.i64 (8 : Int),
 PV.int IntKind.i64 (0 : Int)]) ([[(2, false, Blk.cols mr [Col.int IntKind.u32 tr]),
 (1, false, Blk.cols mq [Col.int IntKind.u32 tq]),
 (0, false, Blk.cols mp [Col.int IntKind.u32 tp]),
 (57, true,
 Blk.cells
 [PV.int IntKind.i64
 (Prod.fst
 (Prod.snd
 (S.mulI (S.sgB n1 (S.desV (Min.min np (20)) fun j => tp (j + ap)))
 (List.length (S.grp (S.desV (Min.min np (20)) fun j => tp (j + ap))))
 (fun j =>
 S.at' (S.grp (S.desV (Min.min np (20)) fun j => tp (j + ap))) j)
 (S.sgB n2 (S.desV (Min.min nq (20)) fun j => tq (j + aq)))
 (List.length (S.grp (S.desV (Min.min nq (20)) fun j => tq (j + aq))))
 fun j =>
 S.at' (S.grp (S.desV (Min.min nq (20)) fun j => tq (j + aq))) j))),
 PV.int IntKind.i64
 (Prod.fst
 (Prod.snd
 (S.mulI (S.sgB n2 (S.desV (Min.min nq (20)) fun j => tq (j + aq)))
 (List.length (S.grp (S.desV (Min.min nq (20)) fun j => tq (j + aq))))
 (fun j =>
 S.at' (S.grp (S.desV (Min.min nq (20)) fun j => tq (j + aq))) j)
 (S.sgB n1 (S.desV (Min.min np (20)) fun j => tp (j + ap)))
 (List.length (S.grp (S.desV (Min.min np (20)) fun j => tp (j + ap))))
 fun j =>
 S.at' (S.grp (S.desV (Min.min np (20)) fun j => tp (j + ap))) j))),
 PV.int IntKind.i64
 (Prod.fst
 (Prod.snd
 (S.mulI (S.sgB n1 (S.desV (Min.min np (20)) fun j => tp (j + ap)))
 (List.length (S.grp (S.desV (Min.min np (20)) fun j => tp (j + ap))))
 (fun j =>
 S.at' (S.grp (S.desV (Min.min np (20)) fun j => tp (j + ap))) j)
 (S.sgB n3 (S.desV (Min.min nr (20)) fun j => tr (j + ar)))
 (List.length (S.grp (S.desV (Min.min nr (20)) fun j => tr (j + ar))))
 fun j =>
 S.at' (S.grp (S.desV (Min.min nr (20)) fun j => tr (j + ar))) j))),
 PV.int IntKind.i64
 (Prod.fst
 (Prod.snd
 (S.mulI (S.sgB n1 (S.desV (Min.min np (20)) fun j => tp (j + ap)))
 (List.length (S.grp (S.desV (Min.min np (20)) fun j => tp (j + ap))))
 (fun j =>
 S.at' (S.grp (S.desV (Min.min np (20)) fun j => tp (j + ap))) j)
 (Prod.fst
 (S.addS (S.sgB n2 (S.desV (Min.min nq (20)) fun j => tq (j + aq)))
 (List.length (S.grp (S.desV (Min.min nq (20)) fun j => tq (j + aq))))
 (fun j =>
 S.at' (S.grp (S.desV (Min.min nq (20)) fun j => tq (j + aq)))
 j)
 (S.sgB n3 (S.desV (Min.min nr (20)) fun j => tr (j + ar)))
 (List.length (S.grp (S.desV (Min.min nr (20)) fun j => tr (j + ar))))
 fun j =>
 S.at' (S.grp (S.desV (Min.min nr (20)) fun j => tr (j + ar)))
 j))
 (List.length
 (Prod.snd
 (Prod.snd
 (S.addS
 (S.sgB n2 (S.desV (Min.min nq (20)) fun j => tq (j + aq)))
 (List.length
 (S.grp (S.desV (Min.min nq (20)) fun j => tq (j + aq))))
 (fun j =>
 S.at'
 (S.grp (S.desV (Min.min nq (20)) fun j => tq (j + aq))) j)
 (S.sgB n3 (S.desV (Min.min nr (20)) fun j => tr (j + ar)))
 (List.length
 (S.grp (S.desV (Min.min nr (20)) fun j => tr (j + ar))))
 fun j =>
 S.at'
 (S.grp (S.desV (Min.min nr (20)) fun j => tr (j + ar))) j))))
 fun j =>
 S.at'
 (Prod.snd
 (Prod.snd
 (S.addS
 (S.sgB n2 (S.desV (Min.min nq (20)) fun j => tq (j + aq)))
 (List.length
 (S.grp (S.desV (Min.min nq (20)) fun j => tq (j + aq))))
 (fun j =>
 S.at'
 (S.grp (S.desV (Min.min nq (20)) fun j => tq (j + aq))) j)
 (S.sgB n3 (S.desV (Min.min nr (20)) fun j => tr (j + ar)))
 (List.length
 (S.grp (S.desV (Min.min nr (20)) fun j => tr (j + ar))))
 fun j =>
 S.at'
 (S.grp (S.desV (Min.min nr (20)) fun j => tr (j + ar))) j)))
 j))),
 PV.int IntKind.i64
 (Prod.fst
 (Prod.snd
 (S.addS
 (Prod.fst
 (S.mulI (S.sgB n1 (S.desV (Min.min np (20)) fun j => tp (j + ap)))
 (List.length (S.grp (S.desV (Min.min np (20)) fun j => tp (j + ap))))
 (fun j =>
 S.at' (S.grp (S.desV (Min.min np (20)) fun j => tp (j + ap)))
 j)
 (S.sgB n2 (S.desV (Min.min nq (20)) fun j => tq (j + aq)))
 (List.length (S.grp (S.desV (Min.min nq (20)) fun j => tq (j + aq))))
 fun j =>
 S.at' (S.grp (S.desV (Min.min nq (20)) fun j => tq (j + aq)))
 j))
 (List.length
 (Prod.snd
 (Prod.snd
 (S.mulI
 (S.sgB n1 (S.desV (Min.min np (20)) fun j => tp (j + ap)))
 (List.length
 (S.grp (S.desV (Min.min np (20)) fun j => tp (j + ap))))
 (fun j =>
 S.at'
 (S.grp (S.desV (Min.min np (20)) fun j => tp (j + ap))) j)
 (S.sgB n2 (S.desV (Min.min nq (20)) fun j => tq (j + aq)))
 (List.length
 (S.grp (S.desV (Min.min nq (20)) fun j => tq (j + aq))))
 fun j =>
 S.at'
 (S.grp (S.desV (Min.min nq (20)) fun j => tq (j + aq))) j))))
 (fun j =>
 S.at'
 (Prod.snd
 (Prod.snd
 (S.mulI
 (S.sgB n1 (S.desV (Min.min np (20)) fun j => tp (j + ap)))
 (List.length
 (S.grp (S.desV (Min.min np (20)) fun j => tp (j + ap))))
 (fun j =>
 S.at'
 (S.grp (S.desV (Min.min np (20)) fun j => tp (j + ap))) j)
 (S.sgB n2 (S.desV (Min.min nq (20)) fun j => tq (j + aq)))
 (List.length
 (S.grp (S.desV (Min.min nq (20)) fun j => tq (j + aq))))
 fun j =>
 S.at'
 (S.grp (S.desV (Min.min nq (20)) fun j => tq (j + aq))) j)))
 j)
 (Prod.fst
 (S.mulI (S.sgB n1 (S.desV (Min.min np (20)) fun j => tp (j + ap)))
 (List.length (S.grp (S.desV (Min.min np (20)) fun j => tp (j + ap))))
 (fun j =>
 S.at' (S.grp (S.desV (Min.min np (20)) fun j => tp (j + ap)))
 j)
 (S.sgB n3 (S.desV (Min.min nr (20)) fun j => tr (j + ar)))
 (List.length (S.grp (S.desV (Min.min nr (20)) fun j => tr (j + ar))))
 fun j =>
 S.at' (S.grp (S.desV (Min.min nr (20)) fun j => tr (j + ar)))
 j))
 (List.length
 (Prod.snd
 (Prod.snd
 (S.mulI
 (S.sgB n1 (S.desV (Min.min np (20)) fun j => tp (j + ap)))
 (List.length
 (S.grp (S.desV (Min.min np (20)) fun j => tp (j + ap))))
 (fun j =>
 S.at'
 (S.grp (S.desV (Min.min np (20)) fun j => tp (j + ap))) j)
 (S.sgB n3 (S.desV (Min.min nr (20)) fun j => tr (j + ar)))
 (List.length
 (S.grp (S.desV (Min.min nr (20)) fun j => tr (j + ar))))
 fun j =>
 S.at'
 (S.grp (S.desV (Min.min nr (20)) fun j => tr (j + ar))) j))))
 fun j =>
 S.at'
 (Prod.snd
 (Prod.snd
 (S.mulI
 (S.sgB n1 (S.desV (Min.min np (20)) fun j => tp (j + ap)))
 (List.length
 (S.grp (S.desV (Min.min np (20)) fun j => tp (j + ap))))
 (fun j =>
 S.at'
 (S.grp (S.desV (Min.min np (20)) fun j => tp (j + ap))) j)
 (S.sgB n3 (S.desV (Min.min nr (20)) fun j => tr (j + ar)))
 (List.length
 (S.grp (S.desV (Min.min nr (20)) fun j => tr (j + ar))))
 fun j =>
 S.at'
 (S.grp (S.desV (Min.min nr (20)) fun j => tr (j + ar))) j)))
 j))),
 PV.int IntKind.i64
 (Prod.fst
 (Prod.snd
 (S.mulI
 (Prod.fst
 (S.mulI (S.sgB n1 (S.desV (Min.min np (20)) fun j => tp (j + ap)))
 (List.length (S.grp (S.desV (Min.min np (20)) fun j => tp (j + ap))))
 (fun j =>
 S.at' (S.grp (S.desV (Min.min np (20)) fun j => tp (j + ap)))
 j)
 (S.sgB n2 (S.desV (Min.min nq (20)) fun j => tq (j + aq)))
 (List.length (S.grp (S.desV (Min.min nq (20)) fun j => tq (j + aq))))
 fun j =>
 S.at' (S.grp (S.desV (Min.min nq (20)) fun j => tq (j + aq)))
 j))
 (List.length
 (Prod.snd
 (Prod.snd
 (S.mulI
 (S.sgB n1 (S.desV (Min.min np (20)) fun j => tp (j + ap)))
 (List.length
 (S.grp (S.desV (Min.min np (20)) fun j => tp (j + ap))))
 (fun j =>
 S.at'
 (S.grp (S.desV (Min.min np (20)) fun j => tp (j + ap))) j)
 (S.sgB n2 (S.desV (Min.min nq (20)) fun j => tq (j + aq)))
 (List.length
 (S.grp (S.desV (Min.min nq (20)) fun j => tq (j + aq))))
 fun j =>
 S.at'
 (S.grp (S.desV (Min.min nq (20)) fun j => tq (j + aq))) j))))
 (fun j =>
 S.at'
 (Prod.snd
 (Prod.snd
 (S.mulI
 (S.sgB n1 (S.desV (Min.min np (20)) fun j => tp (j + ap)))
 (List.length
 (S.grp (S.desV (Min.min np (20)) fun j => tp (j + ap))))
 (fun j =>
 S.at'
 (S.grp (S.desV (Min.min np (20)) fun j => tp (j + ap))) j)
 (S.sgB n2 (S.desV (Min.min nq (20)) fun j => tq (j + aq)))
 (List.length
 (S.grp (S.desV (Min.min nq (20)) fun j => tq (j + aq))))
 fun j =>
 S.at'
 (S.grp (S.desV (Min.min nq (20)) fun j => tq (j + aq))) j)))
 j)
 (S.sgB n3 (S.desV (Min.min nr (20)) fun j => tr (j + ar)))
 (List.length (S.grp (S.desV (Min.min nr (20)) fun j => tr (j + ar))))
 fun j =>
 S.at' (S.grp (S.desV (Min.min nr (20)) fun j => tr (j + ar))) j))),
 PV.int IntKind.i64
 (Prod.fst
 (Prod.snd
 (S.mulI (S.sgB n2 (S.desV (Min.min nq (20)) fun j => tq (j + aq)))
 (List.length (S.grp (S.desV (Min.min nq (20)) fun j => tq (j + aq))))
 (fun j =>
 S.at' (S.grp (S.desV (Min.min nq (20)) fun j => tq (j + aq))) j)
 (S.sgB n3 (S.desV (Min.min nr (20)) fun j => tr (j + ar)))
 (List.length (S.grp (S.desV (Min.min nr (20)) fun j => tr (j + ar))))
 fun j =>
 S.at' (S.grp (S.desV (Min.min nr (20)) fun j => tr (j + ar))) j))),
 PV.int IntKind.i64
 (Prod.fst
 (Prod.snd
 (S.mulI (S.sgB n1 (S.desV (Min.min np (20)) fun j => tp (j + ap)))
 (List.length (S.grp (S.desV (Min.min np (20)) fun j => tp (j + ap))))
 (fun j =>
 S.at' (S.grp (S.desV (Min.min np (20)) fun j => tp (j + ap))) j)
 (Prod.fst
 (S.mulI (S.sgB n2 (S.desV (Min.min nq (20)) fun j => tq (j + aq)))
 (List.length (S.grp (S.desV (Min.min nq (20)) fun j => tq (j + aq))))
 (fun j =>
 S.at' (S.grp (S.desV (Min.min nq (20)) fun j => tq (j + aq)))
 j)
 (S.sgB n3 (S.desV (Min.min nr (20)) fun j => tr (j + ar)))
 (List.length (S.grp (S.desV (Min.min nr (20)) fun j => tr (j + ar))))
 fun j =>
 S.at' (S.grp (S.desV (Min.min nr (20)) fun j => tr (j + ar)))
 j))
 (List.length
 (Prod.snd
 (Prod.snd
 (S.mulI
 (S.sgB n2 (S.desV (Min.min nq (20)) fun j => tq (j + aq)))
 (List.length
 (S.grp (S.desV (Min.min nq (20)) fun j => tq (j + aq))))
 (fun j =>
 S.at'
 (S.grp (S.desV (Min.min nq (20)) fun j => tq (j + aq))) j)
 (S.sgB n3 (S.desV (Min.min nr (20)) fun j => tr (j + ar)))
 (List.length
 (S.grp (S.desV (Min.min nr (20)) fun j => tr (j + ar))))
 fun j =>
 S.at'
 (S.grp (S.desV (Min.min nr (20)) fun j => tr (j + ar))) j))))
 fun j =>
 S.at'
 (Prod.snd
 (Prod.snd
 (S.mulI
 (S.sgB n2 (S.desV (Min.min nq (20)) fun j => tq (j + aq)))
 (List.length
 (S.grp (S.desV (Min.min nq (20)) fun j => tq (j + aq))))
 (fun j =>
 S.at'
 (S.grp (S.desV (Min.min nq (20)) fun j => tq (j + aq))) j)
 (S.sgB n3 (S.desV (Min.min nr (20)) fun j => tr (j + ar)))
 (List.length
 (S.grp (S.desV (Min.min nr (20)) fun j => tr (j + ar))))
 fun j =>
 S.at'
 (S.grp (S.desV (Min.min nr (20)) fun j => tr (j + ar))) j)))
 j)))]),
 (56, true,
 Blk.cells
 [PV.bool
 (Prod.fst
 (S.mulI (S.sgB n1 (S.desV (Min.min np (20)) fun j => tp (j + ap)))
 (List.length (S.grp (S.desV (Min.min np (20)) fun j => tp (j + ap))))
 (fun j =>
 S.at' (S.grp (S.desV (Min.min np (20)) fun j => tp (j + ap))) j)
 (Prod.fst
 (S.mulI (S.sgB n2 (S.desV (Min.min nq (20)) fun j => tq (j + aq)))
 (List.length (S.grp (S.desV (Min.min nq (20)) fun j => tq (j + aq))))
 (fun j =>
 S.at' (S.grp (S.desV (Min.min nq (20)) fun j => tq (j + aq))) j)
 (S.sgB n3 (S.desV (Min.min nr (20)) fun j => tr (j + ar)))
 (List.length (S.grp (S.desV (Min.min nr (20)) fun j => tr (j + ar))))
 fun j =>
 S.at' (S.grp (S.desV (Min.min nr (20)) fun j => tr (j + ar))) j))
 (List.length
 (Prod.snd
 (Prod.snd
 (S.mulI
 (S.sgB n2 (S.desV (Min.min nq (20)) fun j => tq (j + aq)))
 (List.length
 (S.grp (S.desV (Min.min nq (20)) fun j => tq (j + aq))))
 (fun j =>
 S.at'
 (S.grp (S.desV (Min.min nq (20)) fun j => tq (j + aq))) j)
 (S.sgB n3 (S.desV (Min.min nr (20)) fun j => tr (j + ar)))
 (List.length
 (S.grp (S.desV (Min.min nr (20)) fun j => tr (j + ar))))
 fun j =>
 S.at' (S.grp (S.desV (Min.min nr (20)) fun j => tr (j + ar)))
 j))))
 fun j =>
 S.at'
 (Prod.snd
 (Prod.snd
 (S.mulI
 (S.sgB n2 (S.desV (Min.min nq (20)) fun j => tq (j + aq)))
 (List.length
 (S.grp (S.desV (Min.min nq (20)) fun j => tq (j + aq))))
 (fun j =>
 S.at'
 (S.grp (S.desV (Min.min nq (20)) fun j => tq (j + aq))) j)
 (S.sgB n3 (S.desV (Min.min nr (20)) fun j => tr (j + ar)))
 (List.length
 (S.grp (S.desV (Min.min nr (20)) fun j => tr (j + ar))))
 fun j =>
 S.at' (S.grp (S.desV (Min.min nr (20)) fun j => tr (j + ar)))
 j)))
 j)),
 PV.own (55) (1)
 (List.length
 (Prod.snd
 (Prod.snd
 (S.mulI (S.sgB n1 (S.desV (Min.min np (20)) fun j => tp (j + ap)))
 (List.length (S.grp (S.desV (Min.min np (20)) fun j => tp (j + ap))))
 (fun j =>
 S.at' (S.grp (S.desV (Min.min np (20)) fun j => tp (j + ap))) j)
 (Prod.fst
 (S.mulI
 (S.sgB n2 (S.desV (Min.min nq (20)) fun j => tq (j + aq)))
 (List.length
 (S.grp (S.desV (Min.min nq (20)) fun j => tq (j + aq))))
 (fun j =>
 S.at'
 (S.grp (S.desV (Min.min nq (20)) fun j => tq (j + aq))) j)
 (S.sgB n3 (S.desV (Min.min nr (20)) fun j => tr (j + ar)))
 (List.length
 (S.grp (S.desV (Min.min nr (20)) fun j => tr (j + ar))))
 fun j =>
 S.at' (S.grp (S.desV (Min.min nr (20)) fun j => tr (j + ar)))
 j))
 (List.length
 (Prod.snd
 (Prod.snd
 (S.mulI
 (S.sgB n2 (S.desV (Min.min nq (20)) fun j => tq (j + aq)))
 (List.length
 (S.grp (S.desV (Min.min nq (20)) fun j => tq (j + aq))))
 (fun j =>
 S.at'
 (S.grp (S.desV (Min.min nq (20)) fun j => tq (j + aq))) j)
 (S.sgB n3 (S.desV (Min.min nr (20)) fun j => tr (j + ar)))
 (List.length
 (S.grp (S.desV (Min.min nr (20)) fun j => tr (j + ar))))
 fun j =>
 S.at'
 (S.grp (S.desV (Min.min nr (20)) fun j => tr (j + ar))) j))))
 fun j =>
 S.at'
 (Prod.snd
 (Prod.snd
 (S.mulI
 (S.sgB n2 (S.desV (Min.min nq (20)) fun j => tq (j + aq)))
 (List.length
 (S.grp (S.desV (Min.min nq (20)) fun j => tq (j + aq))))
 (fun j =>
 S.at'
 (S.grp (S.desV (Min.min nq (20)) fun j => tq (j + aq))) j)
 (S.sgB n3 (S.desV (Min.min nr (20)) fun j => tr (j + ar)))
 (List.length
 (S.grp (S.desV (Min.min nr (20)) fun j => tr (j + ar))))
 fun j =>
 S.at'
 (S.grp (S.desV (Min.min nr (20)) fun j => tr (j + ar))) j)))
 j))))]),
 (50, true,
 Blk.cells
 [PV.bool
 (Prod.fst
 (S.mulI
 (Prod.fst
 (S.mulI (S.sgB n1 (S.desV (Min.min np (20)) fun j => tp (j + ap)))
 (List.length (S.grp (S.desV (Min.min np (20)) fun j => tp (j + ap))))
 (fun j =>
 S.at' (S.grp (S.desV (Min.min np (20)) fun j => tp (j + ap))) j)
 (S.sgB n2 (S.desV (Min.min nq (20)) fun j => tq (j + aq)))
 (List.length (S.grp (S.desV (Min.min nq (20)) fun j => tq (j + aq))))
 fun j =>
 S.at' (S.grp (S.desV (Min.min nq (20)) fun j => tq (j + aq))) j))
 (List.length
 (Prod.snd
 (Prod.snd
 (S.mulI
 (S.sgB n1 (S.desV (Min.min np (20)) fun j => tp (j + ap)))
 (List.length
 (S.grp (S.desV (Min.min np (20)) fun j => tp (j + ap))))
 (fun j =>
 S.at'
 (S.grp (S.desV (Min.min np (20)) fun j => tp (j + ap))) j)
 (S.sgB n2 (S.desV (Min.min nq (20)) fun j => tq (j + aq)))
 (List.length
 (S.grp (S.desV (Min.min nq (20)) fun j => tq (j + aq))))
 fun j =>
 S.at' (S.grp (S.desV (Min.min nq (20)) fun j => tq (j + aq)))
 j))))
 (fun j =>
 S.at'
 (Prod.snd
 (Prod.snd
 (S.mulI
 (S.sgB n1 (S.desV (Min.min np (20)) fun j => tp (j + ap)))
 (List.length
 (S.grp (S.desV (Min.min np (20)) fun j => tp (j + ap))))
 (fun j =>
 S.at'
 (S.grp (S.desV (Min.min np (20)) fun j => tp (j + ap))) j)
 (S.sgB n2 (S.desV (Min.min nq (20)) fun j => tq (j + aq)))
 (List.length
 (S.grp (S.desV (Min.min nq (20)) fun j => tq (j + aq))))
 fun j =>
 S.at'
 (S.grp (S.desV (Min.min nq (20)) fun j => tq (j + aq))) j)))
 j)
 (S.sgB n3 (S.desV (Min.min nr (20)) fun j => tr (j + ar)))
 (List.length (S.grp (S.desV (Min.min nr (20)) fun j => tr (j + ar))))
 fun j =>
 S.at' (S.grp (S.desV (Min.min nr (20)) fun j => tr (j + ar))) j)),
 PV.own (49) (1)
 (List.length
 (Prod.snd
 (Prod.snd
 (S.mulI
 (Prod.fst
 (S.mulI
 (S.sgB n1 (S.desV (Min.min np (20)) fun j => tp (j + ap)))
 (List.length
 (S.grp (S.desV (Min.min np (20)) fun j => tp (j + ap))))
 (fun j =>
 S.at'
 (S.grp (S.desV (Min.min np (20)) fun j => tp (j + ap))) j)
 (S.sgB n2 (S.desV (Min.min nq (20)) fun j => tq (j + aq)))
 (List.length
 (S.grp (S.desV (Min.min nq (20)) fun j => tq (j + aq))))
 fun j =>
 S.at' (S.grp (S.desV (Min.min nq (20)) fun j => tq (j + aq)))
 j))
 (List.length
 (Prod.snd
 (Prod.snd
 (S.mulI
 (S.sgB n1 (S.desV (Min.min np (20)) fun j => tp (j + ap)))
 (List.length
 (S.grp (S.desV (Min.min np (20)) fun j => tp (j + ap))))
 (fun j =>
 S.at'
 (S.grp (S.desV (Min.min np (20)) fun j => tp (j + ap))) j)
 (S.sgB n2 (S.desV (Min.min nq (20)) fun j => tq (j + aq)))
 (List.length
 (S.grp (S.desV (Min.min nq (20)) fun j => tq (j + aq))))
 fun j =>
 S.at'
 (S.grp (S.desV (Min.min nq (20)) fun j => tq (j + aq))) j))))
 (fun j =>
 S.at'
 (Prod.snd
 (Prod.snd
 (S.mulI
 (S.sgB n1 (S.desV (Min.min np (20)) fun j => tp (j + ap)))
 (List.length
 (S.grp (S.desV (Min.min np (20)) fun j => tp (j + ap))))
 (fun j =>
 S.at'
 (S.grp (S.desV (Min.min np (20)) fun j => tp (j + ap))) j)
 (S.sgB n2 (S.desV (Min.min nq (20)) fun j => tq (j + aq)))
 (List.length
 (S.grp (S.desV (Min.min nq (20)) fun j => tq (j + aq))))
 fun j =>
 S.at'
 (S.grp (S.desV (Min.min nq (20)) fun j => tq (j + aq))) j)))
 j)
 (S.sgB n3 (S.desV (Min.min nr (20)) fun j => tr (j + ar)))
 (List.length (S.grp (S.desV (Min.min nr (20)) fun j => tr (j + ar))))
 fun j =>
 S.at' (S.grp (S.desV (Min.min nr (20)) fun j => tr (j + ar)))
 j))))]),
 (47, true,
 Blk.cells
 [PV.bool
 (Prod.fst
 (S.addS
 (Prod.fst
 (S.mulI (S.sgB n1 (S.desV (Min.min np (20)) fun j => tp (j + ap)))
 (List.length (S.grp (S.desV (Min.min np (20)) fun j => tp (j + ap))))
 (fun j =>
 S.at' (S.grp (S.desV (Min.min np (20)) fun j => tp (j + ap))) j)
 (S.sgB n2 (S.desV (Min.min nq (20)) fun j => tq (j + aq)))
 (List.length (S.grp (S.desV (Min.min nq (20)) fun j => tq (j + aq))))
 fun j =>
 S.at' (S.grp (S.desV (Min.min nq (20)) fun j => tq (j + aq))) j))
 (List.length
 (Prod.snd
 (Prod.snd
 (S.mulI
 (S.sgB n1 (S.desV (Min.min np (20)) fun j => tp (j + ap)))
 (List.length
 (S.grp (S.desV (Min.min np (20)) fun j => tp (j + ap))))
 (fun j =>
 S.at'
 (S.grp (S.desV (Min.min np (20)) fun j => tp (j + ap))) j)
 (S.sgB n2 (S.desV (Min.min nq (20)) fun j => tq (j + aq)))
 (List.length
 (S.grp (S.desV (Min.min nq (20)) fun j => tq (j + aq))))
 fun j =>
 S.at' (S.grp (S.desV (Min.min nq (20)) fun j => tq (j + aq)))
 j))))
 (fun j =>
 S.at'
 (Prod.snd
 (Prod.snd
 (S.mulI
 (S.sgB n1 (S.desV (Min.min np (20)) fun j => tp (j + ap)))
 (List.length
 (S.grp (S.desV (Min.min np (20)) fun j => tp (j + ap))))
 (fun j =>
 S.at'
 (S.grp (S.desV (Min.min np (20)) fun j => tp (j + ap))) j)
 (S.sgB n2 (S.desV (Min.min nq (20)) fun j => tq (j + aq)))
 (List.length
 (S.grp (S.desV (Min.min nq (20)) fun j => tq (j + aq))))
 fun j =>
 S.at'
 (S.grp (S.desV (Min.min nq (20)) fun j => tq (j + aq))) j)))
 j)
 (Prod.fst
 (S.mulI (S.sgB n1 (S.desV (Min.min np (20)) fun j => tp (j + ap)))
 (List.length (S.grp (S.desV (Min.min np (20)) fun j => tp (j + ap))))
 (fun j =>
 S.at' (S.grp (S.desV (Min.min np (20)) fun j => tp (j + ap))) j)
 (S.sgB n3 (S.desV (Min.min nr (20)) fun j => tr (j + ar)))
 (List.length (S.grp (S.desV (Min.min nr (20)) fun j => tr (j + ar))))
 fun j =>
 S.at' (S.grp (S.desV (Min.min nr (20)) fun j => tr (j + ar))) j))
 (List.length
 (Prod.snd
 (Prod.snd
 (S.mulI
 (S.sgB n1 (S.desV (Min.min np (20)) fun j => tp (j + ap)))
 (List.length
 (S.grp (S.desV (Min.min np (20)) fun j => tp (j + ap))))
 (fun j =>
 S.at'
 (S.grp (S.desV (Min.min np (20)) fun j => tp (j + ap))) j)
 (S.sgB n3 (S.desV (Min.min nr (20)) fun j => tr (j + ar)))
 (List.length
 (S.grp (S.desV (Min.min nr (20)) fun j => tr (j + ar))))
 fun j =>
 S.at' (S.grp (S.desV (Min.min nr (20)) fun j => tr (j + ar)))
 j))))
 fun j =>
 S.at'
 (Prod.snd
 (Prod.snd
 (S.mulI
 (S.sgB n1 (S.desV (Min.min np (20)) fun j => tp (j + ap)))
 (List.length
 (S.grp (S.desV (Min.min np (20)) fun j => tp (j + ap))))
 (fun j =>
 S.at'
 (S.grp (S.desV (Min.min np (20)) fun j => tp (j + ap))) j)
 (S.sgB n3 (S.desV (Min.min nr (20)) fun j => tr (j + ar)))
 (List.length
 (S.grp (S.desV (Min.min nr (20)) fun j => tr (j + ar))))
 fun j =>
 S.at' (S.grp (S.desV (Min.min nr (20)) fun j => tr (j + ar)))
 j)))
 j)),
 PV.own (46) (1)
 (List.length
 (Prod.snd
 (Prod.snd
 (S.addS
 (Prod.fst
 (S.mulI
 (S.sgB n1 (S.desV (Min.min np (20)) fun j => tp (j + ap)))
 (List.length
 (S.grp (S.desV (Min.min np (20)) fun j => tp (j + ap))))
 (fun j =>
 S.at'
 (S.grp (S.desV (Min.min np (20)) fun j => tp (j + ap))) j)
 (S.sgB n2 (S.desV (Min.min nq (20)) fun j => tq (j + aq)))
 (List.length
 (S.grp (S.desV (Min.min nq (20)) fun j => tq (j + aq))))
 fun j =>
 S.at' (S.grp (S.desV (Min.min nq (20)) fun j => tq (j + aq)))
 j))
 (List.length
 (Prod.snd
 (Prod.snd
 (S.mulI
 (S.sgB n1 (S.desV (Min.min np (20)) fun j => tp (j + ap)))
 (List.length
 (S.grp (S.desV (Min.min np (20)) fun j => tp (j + ap))))
 (fun j =>
 S.at'
 (S.grp (S.desV (Min.min np (20)) fun j => tp (j + ap))) j)
 (S.sgB n2 (S.desV (Min.min nq (20)) fun j => tq (j + aq)))
 (List.length
 (S.grp (S.desV (Min.min nq (20)) fun j => tq (j + aq))))
 fun j =>
 S.at'
 (S.grp (S.desV (Min.min nq (20)) fun j => tq (j + aq))) j))))
 (fun j =>
 S.at'
 (Prod.snd
 (Prod.snd
 (S.mulI
 (S.sgB n1 (S.desV (Min.min np (20)) fun j => tp (j + ap)))
 (List.length
 (S.grp (S.desV (Min.min np (20)) fun j => tp (j + ap))))
 (fun j =>
 S.at'
 (S.grp (S.desV (Min.min np (20)) fun j => tp (j + ap))) j)
 (S.sgB n2 (S.desV (Min.min nq (20)) fun j => tq (j + aq)))
 (List.length
 (S.grp (S.desV (Min.min nq (20)) fun j => tq (j + aq))))
 fun j =>
 S.at'
 (S.grp (S.desV (Min.min nq (20)) fun j => tq (j + aq))) j)))
 j)
 (Prod.fst
 (S.mulI
 (S.sgB n1 (S.desV (Min.min np (20)) fun j => tp (j + ap)))
 (List.length
 (S.grp (S.desV (Min.min np (20)) fun j => tp (j + ap))))
 (fun j =>
 S.at'
 (S.grp (S.desV (Min.min np (20)) fun j => tp (j + ap))) j)
 (S.sgB n3 (S.desV (Min.min nr (20)) fun j => tr (j + ar)))
 (List.length
 (S.grp (S.desV (Min.min nr (20)) fun j => tr (j + ar))))
 fun j =>
 S.at' (S.grp (S.desV (Min.min nr (20)) fun j => tr (j + ar)))
 j))
 (List.length
 (Prod.snd
 (Prod.snd
 (S.mulI
 (S.sgB n1 (S.desV (Min.min np (20)) fun j => tp (j + ap)))
 (List.length
 (S.grp (S.desV (Min.min np (20)) fun j => tp (j + ap))))
 (fun j =>
 S.at'
 (S.grp (S.desV (Min.min np (20)) fun j => tp (j + ap))) j)
 (S.sgB n3 (S.desV (Min.min nr (20)) fun j => tr (j + ar)))
 (List.length
 (S.grp (S.desV (Min.min nr (20)) fun j => tr (j + ar))))
 fun j =>
 S.at'
 (S.grp (S.desV (Min.min nr (20)) fun j => tr (j + ar))) j))))
 fun j =>
 S.at'
 (Prod.snd
 (Prod.snd
 (S.mulI
 (S.sgB n1 (S.desV (Min.min np (20)) fun j => tp (j + ap)))
 (List.length
 (S.grp (S.desV (Min.min np (20)) fun j => tp (j + ap))))
 (fun j =>
 S.at'
 (S.grp (S.desV (Min.min np (20)) fun j => tp (j + ap))) j)
 (S.sgB n3 (S.desV (Min.min nr (20)) fun j => tr (j + ar)))
 (List.length
 (S.grp (S.desV (Min.min nr (20)) fun j => tr (j + ar))))
 fun j =>
 S.at'
 (S.grp (S.desV (Min.min nr (20)) fun j => tr (j + ar))) j)))
 j))))]),
 (44, true,
 Blk.cells
 [PV.bool
 (Prod.fst
 (S.mulI (S.sgB n1 (S.desV (Min.min np (20)) fun j => tp (j + ap)))
 (List.length (S.grp (S.desV (Min.min np (20)) fun j => tp (j + ap))))
 (fun j =>
 S.at' (S.grp (S.desV (Min.min np (20)) fun j => tp (j + ap))) j)
 (Prod.fst
 (S.addS (S.sgB n2 (S.desV (Min.min nq (20)) fun j => tq (j + aq)))
 (List.length (S.grp (S.desV (Min.min nq (20)) fun j => tq (j + aq))))
 (fun j =>
 S.at' (S.grp (S.desV (Min.min nq (20)) fun j => tq (j + aq))) j)
 (S.sgB n3 (S.desV (Min.min nr (20)) fun j => tr (j + ar)))
 (List.length (S.grp (S.desV (Min.min nr (20)) fun j => tr (j + ar))))
 fun j =>
 S.at' (S.grp (S.desV (Min.min nr (20)) fun j => tr (j + ar))) j))
 (List.length
 (Prod.snd
 (Prod.snd
 (S.addS
 (S.sgB n2 (S.desV (Min.min nq (20)) fun j => tq (j + aq)))
 (List.length
 (S.grp (S.desV (Min.min nq (20)) fun j => tq (j + aq))))
 (fun j =>
 S.at'
 (S.grp (S.desV (Min.min nq (20)) fun j => tq (j + aq))) j)
 (S.sgB n3 (S.desV (Min.min nr (20)) fun j => tr (j + ar)))
 (List.length
 (S.grp (S.desV (Min.min nr (20)) fun j => tr (j + ar))))
 fun j =>
 S.at' (S.grp (S.desV (Min.min nr (20)) fun j => tr (j + ar)))
 j))))
 fun j =>
 S.at'
 (Prod.snd
 (Prod.snd
 (S.addS
 (S.sgB n2 (S.desV (Min.min nq (20)) fun j => tq (j + aq)))
 (List.length
 (S.grp (S.desV (Min.min nq (20)) fun j => tq (j + aq))))
 (fun j =>
 S.at'
 (S.grp (S.desV (Min.min nq (20)) fun j => tq (j + aq))) j)
 (S.sgB n3 (S.desV (Min.min nr (20)) fun j => tr (j + ar)))
 (List.length
 (S.grp (S.desV (Min.min nr (20)) fun j => tr (j + ar))))
 fun j =>
 S.at' (S.grp (S.desV (Min.min nr (20)) fun j => tr (j + ar)))
 j)))
 j)),
 PV.own (43) (1)
 (List.length
 (Prod.snd
 (Prod.snd
 (S.mulI (S.sgB n1 (S.desV (Min.min np (20)) fun j => tp (j + ap)))
 (List.length (S.grp (S.desV (Min.min np (20)) fun j => tp (j + ap))))
 (fun j =>
 S.at' (S.grp (S.desV (Min.min np (20)) fun j => tp (j + ap))) j)
 (Prod.fst
 (S.addS
 (S.sgB n2 (S.desV (Min.min nq (20)) fun j => tq (j + aq)))
 (List.length
 (S.grp (S.desV (Min.min nq (20)) fun j => tq (j + aq))))
 (fun j =>
 S.at'
 (S.grp (S.desV (Min.min nq (20)) fun j => tq (j + aq))) j)
 (S.sgB n3 (S.desV (Min.min nr (20)) fun j => tr (j + ar)))
 (List.length
 (S.grp (S.desV (Min.min nr (20)) fun j => tr (j + ar))))
 fun j =>
 S.at' (S.grp (S.desV (Min.min nr (20)) fun j => tr (j + ar)))
 j))
 (List.length
 (Prod.snd
 (Prod.snd
 (S.addS
 (S.sgB n2 (S.desV (Min.min nq (20)) fun j => tq (j + aq)))
 (List.length
 (S.grp (S.desV (Min.min nq (20)) fun j => tq (j + aq))))
 (fun j =>
 S.at'
 (S.grp (S.desV (Min.min nq (20)) fun j => tq (j + aq))) j)
 (S.sgB n3 (S.desV (Min.min nr (20)) fun j => tr (j + ar)))
 (List.length
 (S.grp (S.desV (Min.min nr (20)) fun j => tr (j + ar))))
 fun j =>
 S.at'
 (S.grp (S.desV (Min.min nr (20)) fun j => tr (j + ar))) j))))
 fun j =>
 S.at'
 (Prod.snd
 (Prod.snd
 (S.addS
 (S.sgB n2 (S.desV (Min.min nq (20)) fun j => tq (j + aq)))
 (List.length
 (S.grp (S.desV (Min.min nq (20)) fun j => tq (j + aq))))
 (fun j =>
 S.at'
 (S.grp (S.desV (Min.min nq (20)) fun j => tq (j + aq))) j)
 (S.sgB n3 (S.desV (Min.min nr (20)) fun j => tr (j + ar)))
 (List.length
 (S.grp (S.desV (Min.min nr (20)) fun j => tr (j + ar))))
 fun j =>
 S.at'
 (S.grp (S.desV (Min.min nr (20)) fun j => tr (j + ar))) j)))
 j))))]),
 (38, true,
 Blk.cells
 [PV.bool
 (Prod.fst
 (S.mulI (S.sgB n2 (S.desV (Min.min nq (20)) fun j => tq (j + aq)))
 (List.length (S.grp (S.desV (Min.min nq (20)) fun j => tq (j + aq))))
 (fun j =>
 S.at' (S.grp (S.desV (Min.min nq (20)) fun j => tq (j + aq))) j)
 (S.sgB n1 (S.desV (Min.min np (20)) fun j => tp (j + ap)))
 (List.length (S.grp (S.desV (Min.min np (20)) fun j => tp (j + ap))))
 fun j =>
 S.at' (S.grp (S.desV (Min.min np (20)) fun j => tp (j + ap))) j)),
 PV.own (37) (1)
 (List.length
 (Prod.snd
 (Prod.snd
 (S.mulI (S.sgB n2 (S.desV (Min.min nq (20)) fun j => tq (j + aq)))
 (List.length (S.grp (S.desV (Min.min nq (20)) fun j => tq (j + aq))))
 (fun j =>
 S.at' (S.grp (S.desV (Min.min nq (20)) fun j => tq (j + aq))) j)
 (S.sgB n1 (S.desV (Min.min np (20)) fun j => tp (j + ap)))
 (List.length (S.grp (S.desV (Min.min np (20)) fun j => tp (j + ap))))
 fun j =>
 S.at' (S.grp (S.desV (Min.min np (20)) fun j => tp (j + ap)))
 j))))]),
 (35, true,
 Blk.cells
 [PV.bool
 (Prod.fst
 (S.mulI (S.sgB n1 (S.desV (Min.min np (20)) fun j => tp (j + ap)))
 (List.length (S.grp (S.desV (Min.min np (20)) fun j => tp (j + ap))))
 (fun j =>
 S.at' (S.grp (S.desV (Min.min np (20)) fun j => tp (j + ap))) j)
 (S.sgB n2 (S.desV (Min.min nq (20)) fun j => tq (j + aq)))
 (List.length (S.grp (S.desV (Min.min nq (20)) fun j => tq (j + aq))))
 fun j =>
 S.at' (S.grp (S.desV (Min.min nq (20)) fun j => tq (j + aq))) j)),
 PV.own (34) (1)
 (List.length
 (Prod.snd
 (Prod.snd
 (S.mulI (S.sgB n1 (S.desV (Min.min np (20)) fun j => tp (j + ap)))
 (List.length (S.grp (S.desV (Min.min np (20)) fun j => tp (j + ap))))
 (fun j =>
 S.at' (S.grp (S.desV (Min.min np (20)) fun j => tp (j + ap))) j)
 (S.sgB n2 (S.desV (Min.min nq (20)) fun j => tq (j + aq)))
 (List.length (S.grp (S.desV (Min.min nq (20)) fun j => tq (j + aq))))
 fun j =>
 S.at' (S.grp (S.desV (Min.min nq (20)) fun j => tq (j + aq)))
 j))))]),
 (34, true,
 Blk.cols
 (List.length
 (Prod.snd
 (Prod.snd
 (S.mulI (S.sgB n1 (S.desV (Min.min np (20)) fun j => tp (j + ap)))
 (List.length (S.grp (S.desV (Min.min np (20)) fun j => tp (j + ap))))
 (fun j =>
 S.at' (S.grp (S.desV (Min.min np (20)) fun j => tp (j + ap))) j)
 (S.sgB n2 (S.desV (Min.min nq (20)) fun j => tq (j + aq)))
 (List.length (S.grp (S.desV (Min.min nq (20)) fun j => tq (j + aq))))
 fun j =>
 S.at' (S.grp (S.desV (Min.min nq (20)) fun j => tq (j + aq))) j))))
 [Col.int IntKind.i64 fun j =>
 S.at'
 (Prod.snd
 (Prod.snd
 (S.mulI (S.sgB n1 (S.desV (Min.min np (20)) fun j => tp (j + ap)))
 (List.length (S.grp (S.desV (Min.min np (20)) fun j => tp (j + ap))))
 (fun j =>
 S.at' (S.grp (S.desV (Min.min np (20)) fun j => tp (j + ap))) j)
 (S.sgB n2 (S.desV (Min.min nq (20)) fun j => tq (j + aq)))
 (List.length (S.grp (S.desV (Min.min nq (20)) fun j => tq (j + aq))))
 fun j =>
 S.at' (S.grp (S.desV (Min.min nq (20)) fun j => tq (j + aq))) j)))
 j]),
 (37, true,
 Blk.cols
 (List.length
 (Prod.snd
 (Prod.snd
 (S.mulI (S.sgB n2 (S.desV (Min.min nq (20)) fun j => tq (j + aq)))
 (List.length (S.grp (S.desV (Min.min nq (20)) fun j => tq (j + aq))))
 (fun j =>
 S.at' (S.grp (S.desV (Min.min nq (20)) fun j => tq (j + aq))) j)
 (S.sgB n1 (S.desV (Min.min np (20)) fun j => tp (j + ap)))
 (List.length (S.grp (S.desV (Min.min np (20)) fun j => tp (j + ap))))
 fun j =>
 S.at' (S.grp (S.desV (Min.min np (20)) fun j => tp (j + ap))) j))))
 [Col.int IntKind.i64 fun j =>
 S.at'
 (Prod.snd
 (Prod.snd
 (S.mulI (S.sgB n2 (S.desV (Min.min nq (20)) fun j => tq (j + aq)))
 (List.length (S.grp (S.desV (Min.min nq (20)) fun j => tq (j + aq))))
 (fun j =>
 S.at' (S.grp (S.desV (Min.min nq (20)) fun j => tq (j + aq))) j)
 (S.sgB n1 (S.desV (Min.min np (20)) fun j => tp (j + ap)))
 (List.length (S.grp (S.desV (Min.min np (20)) fun j => tp (j + ap))))
 fun j =>
 S.at' (S.grp (S.desV (Min.min np (20)) fun j => tp (j + ap))) j)))
 j]),
 (43, true,
 Blk.cols
 (List.length
 (Prod.snd
 (Prod.snd
 (S.mulI (S.sgB n1 (S.desV (Min.min np (20)) fun j => tp (j + ap)))
 (List.length (S.grp (S.desV (Min.min np (20)) fun j => tp (j + ap))))
 (fun j =>
 S.at' (S.grp (S.desV (Min.min np (20)) fun j => tp (j + ap))) j)
 (Prod.fst
 (S.addS (S.sgB n2 (S.desV (Min.min nq (20)) fun j => tq (j + aq)))
 (List.length (S.grp (S.desV (Min.min nq (20)) fun j => tq (j + aq))))
 (fun j =>
 S.at' (S.grp (S.desV (Min.min nq (20)) fun j => tq (j + aq))) j)
 (S.sgB n3 (S.desV (Min.min nr (20)) fun j => tr (j + ar)))
 (List.length (S.grp (S.desV (Min.min nr (20)) fun j => tr (j + ar))))
 fun j =>
 S.at' (S.grp (S.desV (Min.min nr (20)) fun j => tr (j + ar))) j))
 (List.length
 (Prod.snd
 (Prod.snd
 (S.addS
 (S.sgB n2 (S.desV (Min.min nq (20)) fun j => tq (j + aq)))
 (List.length
 (S.grp (S.desV (Min.min nq (20)) fun j => tq (j + aq))))
 (fun j =>
 S.at'
 (S.grp (S.desV (Min.min nq (20)) fun j => tq (j + aq))) j)
 (S.sgB n3 (S.desV (Min.min nr (20)) fun j => tr (j + ar)))
 (List.length
 (S.grp (S.desV (Min.min nr (20)) fun j => tr (j + ar))))
 fun j =>
 S.at' (S.grp (S.desV (Min.min nr (20)) fun j => tr (j + ar)))
 j))))
 fun j =>
 S.at'
 (Prod.snd
 (Prod.snd
 (S.addS
 (S.sgB n2 (S.desV (Min.min nq (20)) fun j => tq (j + aq)))
 (List.length
 (S.grp (S.desV (Min.min nq (20)) fun j => tq (j + aq))))
 (fun j =>
 S.at'
 (S.grp (S.desV (Min.min nq (20)) fun j => tq (j + aq))) j)
 (S.sgB n3 (S.desV (Min.min nr (20)) fun j => tr (j + ar)))
 (List.length
 (S.grp (S.desV (Min.min nr (20)) fun j => tr (j + ar))))
 fun j =>
 S.at' (S.grp (S.desV (Min.min nr (20)) fun j => tr (j + ar)))
 j)))
 j))))
 [Col.int IntKind.i64 fun j =>
 S.at'
 (Prod.snd
 (Prod.snd
 (S.mulI (S.sgB n1 (S.desV (Min.min np (20)) fun j => tp (j + ap)))
 (List.length (S.grp (S.desV (Min.min np (20)) fun j => tp (j + ap))))
 (fun j =>
 S.at' (S.grp (S.desV (Min.min np (20)) fun j => tp (j + ap))) j)
 (Prod.fst
 (S.addS
 (S.sgB n2 (S.desV (Min.min nq (20)) fun j => tq (j + aq)))
 (List.length
 (S.grp (S.desV (Min.min nq (20)) fun j => tq (j + aq))))
 (fun j =>
 S.at'
 (S.grp (S.desV (Min.min nq (20)) fun j => tq (j + aq))) j)
 (S.sgB n3 (S.desV (Min.min nr (20)) fun j => tr (j + ar)))
 (List.length
 (S.grp (S.desV (Min.min nr (20)) fun j => tr (j + ar))))
 fun j =>
 S.at' (S.grp (S.desV (Min.min nr (20)) fun j => tr (j + ar)))
 j))
 (List.length
 (Prod.snd
 (Prod.snd
 (S.addS
 (S.sgB n2 (S.desV (Min.min nq (20)) fun j => tq (j + aq)))
 (List.length
 (S.grp (S.desV (Min.min nq (20)) fun j => tq (j + aq))))
 (fun j =>
 S.at'
 (S.grp (S.desV (Min.min nq (20)) fun j => tq (j + aq))) j)
 (S.sgB n3 (S.desV (Min.min nr (20)) fun j => tr (j + ar)))
 (List.length
 (S.grp (S.desV (Min.min nr (20)) fun j => tr (j + ar))))
 fun j =>
 S.at'
 (S.grp (S.desV (Min.min nr (20)) fun j => tr (j + ar))) j))))
 fun j =>
 S.at'
 (Prod.snd
 (Prod.snd
 (S.addS
 (S.sgB n2 (S.desV (Min.min nq (20)) fun j => tq (j + aq)))
 (List.length
 (S.grp (S.desV (Min.min nq (20)) fun j => tq (j + aq))))
 (fun j =>
 S.at'
 (S.grp (S.desV (Min.min nq (20)) fun j => tq (j + aq))) j)
 (S.sgB n3 (S.desV (Min.min nr (20)) fun j => tr (j + ar)))
 (List.length
 (S.grp (S.desV (Min.min nr (20)) fun j => tr (j + ar))))
 fun j =>
 S.at'
 (S.grp (S.desV (Min.min nr (20)) fun j => tr (j + ar))) j)))
 j)))
 j]),
 (46, true,
 Blk.cols
 (List.length
 (Prod.snd
 (Prod.snd
 (S.addS
 (Prod.fst
 (S.mulI (S.sgB n1 (S.desV (Min.min np (20)) fun j => tp (j + ap)))
 (List.length (S.grp (S.desV (Min.min np (20)) fun j => tp (j + ap))))
 (fun j =>
 S.at' (S.grp (S.desV (Min.min np (20)) fun j => tp (j + ap))) j)
 (S.sgB n2 (S.desV (Min.min nq (20)) fun j => tq (j + aq)))
 (List.length (S.grp (S.desV (Min.min nq (20)) fun j => tq (j + aq))))
 fun j =>
 S.at' (S.grp (S.desV (Min.min nq (20)) fun j => tq (j + aq))) j))
 (List.length
 (Prod.snd
 (Prod.snd
 (S.mulI
 (S.sgB n1 (S.desV (Min.min np (20)) fun j => tp (j + ap)))
 (List.length
 (S.grp (S.desV (Min.min np (20)) fun j => tp (j + ap))))
 (fun j =>
 S.at'
 (S.grp (S.desV (Min.min np (20)) fun j => tp (j + ap))) j)
 (S.sgB n2 (S.desV (Min.min nq (20)) fun j => tq (j + aq)))
 (List.length
 (S.grp (S.desV (Min.min nq (20)) fun j => tq (j + aq))))
 fun j =>
 S.at' (S.grp (S.desV (Min.min nq (20)) fun j => tq (j + aq)))
 j))))
 (fun j =>
 S.at'
 (Prod.snd
 (Prod.snd
 (S.mulI
 (S.sgB n1 (S.desV (Min.min np (20)) fun j => tp (j + ap)))
 (List.length
 (S.grp (S.desV (Min.min np (20)) fun j => tp (j + ap))))
 (fun j =>
 S.at'
 (S.grp (S.desV (Min.min np (20)) fun j => tp (j + ap))) j)
 (S.sgB n2 (S.desV (Min.min nq (20)) fun j => tq (j + aq)))
 (List.length
 (S.grp (S.desV (Min.min nq (20)) fun j => tq (j + aq))))
 fun j =>
 S.at'
 (S.grp (S.desV (Min.min nq (20)) fun j => tq (j + aq))) j)))
 j)
 (Prod.fst
 (S.mulI (S.sgB n1 (S.desV (Min.min np (20)) fun j => tp (j + ap)))
 (List.length (S.grp (S.desV (Min.min np (20)) fun j => tp (j + ap))))
 (fun j =>
 S.at' (S.grp (S.desV (Min.min np (20)) fun j => tp (j + ap))) j)
 (S.sgB n3 (S.desV (Min.min nr (20)) fun j => tr (j + ar)))
 (List.length (S.grp (S.desV (Min.min nr (20)) fun j => tr (j + ar))))
 fun j =>
 S.at' (S.grp (S.desV (Min.min nr (20)) fun j => tr (j + ar))) j))
 (List.length
 (Prod.snd
 (Prod.snd
 (S.mulI
 (S.sgB n1 (S.desV (Min.min np (20)) fun j => tp (j + ap)))
 (List.length
 (S.grp (S.desV (Min.min np (20)) fun j => tp (j + ap))))
 (fun j =>
 S.at'
 (S.grp (S.desV (Min.min np (20)) fun j => tp (j + ap))) j)
 (S.sgB n3 (S.desV (Min.min nr (20)) fun j => tr (j + ar)))
 (List.length
 (S.grp (S.desV (Min.min nr (20)) fun j => tr (j + ar))))
 fun j =>
 S.at' (S.grp (S.desV (Min.min nr (20)) fun j => tr (j + ar)))
 j))))
 fun j =>
 S.at'
 (Prod.snd
 (Prod.snd
 (S.mulI
 (S.sgB n1 (S.desV (Min.min np (20)) fun j => tp (j + ap)))
 (List.length
 (S.grp (S.desV (Min.min np (20)) fun j => tp (j + ap))))
 (fun j =>
 S.at'
 (S.grp (S.desV (Min.min np (20)) fun j => tp (j + ap))) j)
 (S.sgB n3 (S.desV (Min.min nr (20)) fun j => tr (j + ar)))
 (List.length
 (S.grp (S.desV (Min.min nr (20)) fun j => tr (j + ar))))
 fun j =>
 S.at' (S.grp (S.desV (Min.min nr (20)) fun j => tr (j + ar)))
 j)))
 j))))
 [Col.int IntKind.i64 fun j =>
 S.at'
 (Prod.snd
 (Prod.snd
 (S.addS
 (Prod.fst
 (S.mulI
 (S.sgB n1 (S.desV (Min.min np (20)) fun j => tp (j + ap)))
 (List.length
 (S.grp (S.desV (Min.min np (20)) fun j => tp (j + ap))))
 (fun j =>
 S.at'
 (S.grp (S.desV (Min.min np (20)) fun j => tp (j + ap))) j)
 (S.sgB n2 (S.desV (Min.min nq (20)) fun j => tq (j + aq)))
 (List.length
 (S.grp (S.desV (Min.min nq (20)) fun j => tq (j + aq))))
 fun j =>
 S.at' (S.grp (S.desV (Min.min nq (20)) fun j => tq (j + aq)))
 j))
 (List.length
 (Prod.snd
 (Prod.snd
 (S.mulI
 (S.sgB n1 (S.desV (Min.min np (20)) fun j => tp (j + ap)))
 (List.length
 (S.grp (S.desV (Min.min np (20)) fun j => tp (j + ap))))
 (fun j =>
 S.at'
 (S.grp (S.desV (Min.min np (20)) fun j => tp (j + ap))) j)
 (S.sgB n2 (S.desV (Min.min nq (20)) fun j => tq (j + aq)))
 (List.length
 (S.grp (S.desV (Min.min nq (20)) fun j => tq (j + aq))))
 fun j =>
 S.at'
 (S.grp (S.desV (Min.min nq (20)) fun j => tq (j + aq))) j))))
 (fun j =>
 S.at'
 (Prod.snd
 (Prod.snd
 (S.mulI
 (S.sgB n1 (S.desV (Min.min np (20)) fun j => tp (j + ap)))
 (List.length
 (S.grp (S.desV (Min.min np (20)) fun j => tp (j + ap))))
 (fun j =>
 S.at'
 (S.grp (S.desV (Min.min np (20)) fun j => tp (j + ap))) j)
 (S.sgB n2 (S.desV (Min.min nq (20)) fun j => tq (j + aq)))
 (List.length
 (S.grp (S.desV (Min.min nq (20)) fun j => tq (j + aq))))
 fun j =>
 S.at'
 (S.grp (S.desV (Min.min nq (20)) fun j => tq (j + aq))) j)))
 j)
 (Prod.fst
 (S.mulI
 (S.sgB n1 (S.desV (Min.min np (20)) fun j => tp (j + ap)))
 (List.length
 (S.grp (S.desV (Min.min np (20)) fun j => tp (j + ap))))
 (fun j =>
 S.at'
 (S.grp (S.desV (Min.min np (20)) fun j => tp (j + ap))) j)
 (S.sgB n3 (S.desV (Min.min nr (20)) fun j => tr (j + ar)))
 (List.length
 (S.grp (S.desV (Min.min nr (20)) fun j => tr (j + ar))))
 fun j =>
 S.at' (S.grp (S.desV (Min.min nr (20)) fun j => tr (j + ar)))
 j))
 (List.length
 (Prod.snd
 (Prod.snd
 (S.mulI
 (S.sgB n1 (S.desV (Min.min np (20)) fun j => tp (j + ap)))
 (List.length
 (S.grp (S.desV (Min.min np (20)) fun j => tp (j + ap))))
 (fun j =>
 S.at'
 (S.grp (S.desV (Min.min np (20)) fun j => tp (j + ap))) j)
 (S.sgB n3 (S.desV (Min.min nr (20)) fun j => tr (j + ar)))
 (List.length
 (S.grp (S.desV (Min.min nr (20)) fun j => tr (j + ar))))
 fun j =>
 S.at'
 (S.grp (S.desV (Min.min nr (20)) fun j => tr (j + ar))) j))))
 fun j =>
 S.at'
 (Prod.snd
 (Prod.snd
 (S.mulI
 (S.sgB n1 (S.desV (Min.min np (20)) fun j => tp (j + ap)))
 (List.length
 (S.grp (S.desV (Min.min np (20)) fun j => tp (j + ap))))
 (fun j =>
 S.at'
 (S.grp (S.desV (Min.min np (20)) fun j => tp (j + ap))) j)
 (S.sgB n3 (S.desV (Min.min nr (20)) fun j => tr (j + ar)))
 (List.length
 (S.grp (S.desV (Min.min nr (20)) fun j => tr (j + ar))))
 fun j =>
 S.at'
 (S.grp (S.desV (Min.min nr (20)) fun j => tr (j + ar))) j)))
 j)))
 j]),
 (49, true,
 Blk.cols
 (List.length
 (Prod.snd
 (Prod.snd
 (S.mulI
 (Prod.fst
 (S.mulI (S.sgB n1 (S.desV (Min.min np (20)) fun j => tp (j + ap)))
 (List.length (S.grp (S.desV (Min.min np (20)) fun j => tp (j + ap))))
 (fun j =>
 S.at' (S.grp (S.desV (Min.min np (20)) fun j => tp (j + ap))) j)
 (S.sgB n2 (S.desV (Min.min nq (20)) fun j => tq (j + aq)))
 (List.length (S.grp (S.desV (Min.min nq (20)) fun j => tq (j + aq))))
 fun j =>
 S.at' (S.grp (S.desV (Min.min nq (20)) fun j => tq (j + aq))) j))
 (List.length
 (Prod.snd
 (Prod.snd
 (S.mulI
 (S.sgB n1 (S.desV (Min.min np (20)) fun j => tp (j + ap)))
 (List.length
 (S.grp (S.desV (Min.min np (20)) fun j => tp (j + ap))))
 (fun j =>
 S.at'
 (S.grp (S.desV (Min.min np (20)) fun j => tp (j + ap))) j)
 (S.sgB n2 (S.desV (Min.min nq (20)) fun j => tq (j + aq)))
 (List.length
 (S.grp (S.desV (Min.min nq (20)) fun j => tq (j + aq))))
 fun j =>
 S.at' (S.grp (S.desV (Min.min nq (20)) fun j => tq (j + aq)))
 j))))
 (fun j =>
 S.at'
 (Prod.snd
 (Prod.snd
 (S.mulI
 (S.sgB n1 (S.desV (Min.min np (20)) fun j => tp (j + ap)))
 (List.length
 (S.grp (S.desV (Min.min np (20)) fun j => tp (j + ap))))
 (fun j =>
 S.at'
 (S.grp (S.desV (Min.min np (20)) fun j => tp (j + ap))) j)
 (S.sgB n2 (S.desV (Min.min nq (20)) fun j => tq (j + aq)))
 (List.length
 (S.grp (S.desV (Min.min nq (20)) fun j => tq (j + aq))))
 fun j =>
 S.at'
 (S.grp (S.desV (Min.min nq (20)) fun j => tq (j + aq))) j)))
 j)
 (S.sgB n3 (S.desV (Min.min nr (20)) fun j => tr (j + ar)))
 (List.length (S.grp (S.desV (Min.min nr (20)) fun j => tr (j + ar))))
 fun j =>
 S.at' (S.grp (S.desV (Min.min nr (20)) fun j => tr (j + ar))) j))))
 [Col.int IntKind.i64 fun j =>
 S.at'
 (Prod.snd
 (Prod.snd
 (S.mulI
 (Prod.fst
 (S.mulI
 (S.sgB n1 (S.desV (Min.min np (20)) fun j => tp (j + ap)))
 (List.length
 (S.grp (S.desV (Min.min np (20)) fun j => tp (j + ap))))
 (fun j =>
 S.at'
 (S.grp (S.desV (Min.min np (20)) fun j => tp (j + ap))) j)
 (S.sgB n2 (S.desV (Min.min nq (20)) fun j => tq (j + aq)))
 (List.length
 (S.grp (S.desV (Min.min nq (20)) fun j => tq (j + aq))))
 fun j =>
 S.at' (S.grp (S.desV (Min.min nq (20)) fun j => tq (j + aq)))
 j))
 (List.length
 (Prod.snd
 (Prod.snd
 (S.mulI
 (S.sgB n1 (S.desV (Min.min np (20)) fun j => tp (j + ap)))
 (List.length
 (S.grp (S.desV (Min.min np (20)) fun j => tp (j + ap))))
 (fun j =>
 S.at'
 (S.grp (S.desV (Min.min np (20)) fun j => tp (j + ap))) j)
 (S.sgB n2 (S.desV (Min.min nq (20)) fun j => tq (j + aq)))
 (List.length
 (S.grp (S.desV (Min.min nq (20)) fun j => tq (j + aq))))
 fun j =>
 S.at'
 (S.grp (S.desV (Min.min nq (20)) fun j => tq (j + aq))) j))))
 (fun j =>
 S.at'
 (Prod.snd
 (Prod.snd
 (S.mulI
 (S.sgB n1 (S.desV (Min.min np (20)) fun j => tp (j + ap)))
 (List.length
 (S.grp (S.desV (Min.min np (20)) fun j => tp (j + ap))))
 (fun j =>
 S.at'
 (S.grp (S.desV (Min.min np (20)) fun j => tp (j + ap))) j)
 (S.sgB n2 (S.desV (Min.min nq (20)) fun j => tq (j + aq)))
 (List.length
 (S.grp (S.desV (Min.min nq (20)) fun j => tq (j + aq))))
 fun j =>
 S.at'
 (S.grp (S.desV (Min.min nq (20)) fun j => tq (j + aq))) j)))
 j)
 (S.sgB n3 (S.desV (Min.min nr (20)) fun j => tr (j + ar)))
 (List.length (S.grp (S.desV (Min.min nr (20)) fun j => tr (j + ar))))
 fun j =>
 S.at' (S.grp (S.desV (Min.min nr (20)) fun j => tr (j + ar))) j)))
 j]),
 (55, true,
 Blk.cols
 (List.length
 (Prod.snd
 (Prod.snd
 (S.mulI (S.sgB n1 (S.desV (Min.min np (20)) fun j => tp (j + ap)))
 (List.length (S.grp (S.desV (Min.min np (20)) fun j => tp (j + ap))))
 (fun j =>
 S.at' (S.grp (S.desV (Min.min np (20)) fun j => tp (j + ap))) j)
 (Prod.fst
 (S.mulI (S.sgB n2 (S.desV (Min.min nq (20)) fun j => tq (j + aq)))
 (List.length (S.grp (S.desV (Min.min nq (20)) fun j => tq (j + aq))))
 (fun j =>
 S.at' (S.grp (S.desV (Min.min nq (20)) fun j => tq (j + aq))) j)
 (S.sgB n3 (S.desV (Min.min nr (20)) fun j => tr (j + ar)))
 (List.length (S.grp (S.desV (Min.min nr (20)) fun j => tr (j + ar))))
 fun j =>
 S.at' (S.grp (S.desV (Min.min nr (20)) fun j => tr (j + ar))) j))
 (List.length
 (Prod.snd
 (Prod.snd
 (S.mulI
 (S.sgB n2 (S.desV (Min.min nq (20)) fun j => tq (j + aq)))
 (List.length
 (S.grp (S.desV (Min.min nq (20)) fun j => tq (j + aq))))
 (fun j =>
 S.at'
 (S.grp (S.desV (Min.min nq (20)) fun j => tq (j + aq))) j)
 (S.sgB n3 (S.desV (Min.min nr (20)) fun j => tr (j + ar)))
 (List.length
 (S.grp (S.desV (Min.min nr (20)) fun j => tr (j + ar))))
 fun j =>
 S.at' (S.grp (S.desV (Min.min nr (20)) fun j => tr (j + ar)))
 j))))
 fun j =>
 S.at'
 (Prod.snd
 (Prod.snd
 (S.mulI
 (S.sgB n2 (S.desV (Min.min nq (20)) fun j => tq (j + aq)))
 (List.length
 (S.grp (S.desV (Min.min nq (20)) fun j => tq (j + aq))))
 (fun j =>
 S.at'
 (S.grp (S.desV (Min.min nq (20)) fun j => tq (j + aq))) j)
 (S.sgB n3 (S.desV (Min.min nr (20)) fun j => tr (j + ar)))
 (List.length
 (S.grp (S.desV (Min.min nr (20)) fun j => tr (j + ar))))
 fun j =>
 S.at' (S.grp (S.desV (Min.min nr (20)) fun j => tr (j + ar)))
 j)))
 j))))
 [Col.int IntKind.i64 fun j =>
 S.at'
 (Prod.snd
 (Prod.snd
 (S.mulI (S.sgB n1 (S.desV (Min.min np (20)) fun j => tp (j + ap)))
 (List.length (S.grp (S.desV (Min.min np (20)) fun j => tp (j + ap))))
 (fun j =>
 S.at' (S.grp (S.desV (Min.min np (20)) fun j => tp (j + ap))) j)
 (Prod.fst
 (S.mulI
 (S.sgB n2 (S.desV (Min.min nq (20)) fun j => tq (j + aq)))
 (List.length
 (S.grp (S.desV (Min.min nq (20)) fun j => tq (j + aq))))
 (fun j =>
 S.at'
 (S.grp (S.desV (Min.min nq (20)) fun j => tq (j + aq))) j)
 (S.sgB n3 (S.desV (Min.min nr (20)) fun j => tr (j + ar)))
 (List.length
 (S.grp (S.desV (Min.min nr (20)) fun j => tr (j + ar))))
 fun j =>
 S.at' (S.grp (S.desV (Min.min nr (20)) fun j => tr (j + ar)))
 j))
 (List.length
 (Prod.snd
 (Prod.snd
 (S.mulI
 (S.sgB n2 (S.desV (Min.min nq (20)) fun j => tq (j + aq)))
 (List.length
 (S.grp (S.desV (Min.min nq (20)) fun j => tq (j + aq))))
 (fun j =>
 S.at'
 (S.grp (S.desV (Min.min nq (20)) fun j => tq (j + aq))) j)
 (S.sgB n3 (S.desV (Min.min nr (20)) fun j => tr (j + ar)))
 (List.length
 (S.grp (S.desV (Min.min nr (20)) fun j => tr (j + ar))))
 fun j =>
 S.at'
 (S.grp (S.desV (Min.min nr (20)) fun j => tr (j + ar))) j))))
 fun j =>
 S.at'
 (Prod.snd
 (Prod.snd
 (S.mulI
 (S.sgB n2 (S.desV (Min.min nq (20)) fun j => tq (j + aq)))
 (List.length
 (S.grp (S.desV (Min.min nq (20)) fun j => tq (j + aq))))
 (fun j =>
 S.at'
 (S.grp (S.desV (Min.min nq (20)) fun j => tq (j + aq))) j)
 (S.sgB n3 (S.desV (Min.min nr (20)) fun j => tr (j + ar)))
 (List.length
 (S.grp (S.desV (Min.min nr (20)) fun j => tr (j + ar))))
 fun j =>
 S.at'
 (S.grp (S.desV (Min.min nr (20)) fun j => tr (j + ar))) j)))
 j)))
 j])]]) (58))
 (False))
 (False))
 (False))
 (False))
 (False))
 (False))
 (False))
 (False))
 (Kret (PV.tf false) ([[(2, false, Blk.cols mr [Col.int IntKind.u32 tr]),
 (1, false, Blk.cols mq [Col.int IntKind.u32 tq]),
 (0, false, Blk.cols mp [Col.int IntKind.u32 tp])]]) (33)))
 (False))
 (Kret (PV.tf false) ([[(2, false, Blk.cols mr [Col.int IntKind.u32 tr]),
 (1, false, Blk.cols mq [Col.int IntKind.u32 tq]),
 (0, false, Blk.cols mp [Col.int IntKind.u32 tp])]]) (32)))
 (False)))))))
 (False))
 (False))
 (False))
 (False))
 (False))
 (False))
 (False))
 (False))
 (Kret (PV.tf false) ([[(2, false, Blk.cols mr [Col.int IntKind.u32 tr]),
 (1, false, Blk.cols mq [Col.int IntKind.u32 tq]),
 (0, false, Blk.cols mp [Col.int IntKind.u32 tp])]]) (7)))
 (False)
end Go.Ev
