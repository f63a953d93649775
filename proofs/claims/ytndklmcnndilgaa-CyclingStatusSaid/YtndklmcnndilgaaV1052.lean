/-
  The parts that the statement needs, 2 of 3.
-/
import Derived.Test.YtndklmcnndilgaaV1051
namespace Go.Ev
open Go.Proofs
open Go.IntWalk
set_option linter.unusedVariables false
set_option linter.unusedSimpArgs false
set_option maxRecDepth 100000
theorem s112 (cn : ByteArray) (aq nq mq : Nat) (tq : Nat → Int) (rp fl : Int) (al nl ml : Nat) (tl : Nat → Int) (hp : True) : Goes ((q112 cn aq nq mq tq rp fl al nl ml tl)) ((p112 cn aq nq mq tq rp fl al nl ml tl)) (S.fewC cn nq nl) := by
  show Goes _ _ _
  unfold p112
  repeat' (first | with_reducible refine goes_if (fun h => ?_) (fun h => ?_) <;> (try simp only [SH] at h) | exact goes_none.mpr (by omega))
  all_goals first | (exfalso; omega) | (refine goes_inr.mpr ?_; first | exact (decide_eq_true (by omega)).symm | exact (decide_eq_false (by omega)).symm)
theorem k112_ok  : k112.ok Try.prog := by
  intro x hx
  obtain ⟨⟨cn, ⟨aq, nq, mq, tq, _⟩, rp, fl, _⟩, ⟨al, nl, ml, tl, _⟩, _⟩ := x
  obtain ⟨h1, h2⟩ := a112 cn aq nq mq tq rp fl al nl ml tl (s112 cn aq nq mq tq rp fl al nl ml tl (of_dec hx rfl))
  exact ⟨⟨400, (by decide : 2 + 1 + 0 ≤ 400), h1⟩, h2⟩
noncomputable def xA1 (test : Bool → Prop → Prop → Prop) : Ext := consX test [k116, k117, k135, k136, k112, k25]
theorem xA1_ok  : ExtOk Try.prog (xA1 cond) := consX_ok ⟨k116_ok, k117_ok, k135_ok, k136_ok, k112_ok, k25_ok, trivial⟩
abbrev St114  := Empty
abbrev Rt114  := List Int
noncomputable def V114 (cn : ByteArray) (aq nq mq : Nat) (tq : NI) (rp fl : Int) (r : Rt114) : PV := PV.agg [PV.str cn, PV.own (2) (1) (List.length r), PV.int .i64 rp, PV.int .i64 fl]
noncomputable def N114 (cn : ByteArray) (aq nq mq : Nat) (tq : NI) (rp fl : Int) (r : Rt114) : List Blk := [Blk.cols (List.length r) [Col.int .i64 fun j => S.at' r j]]
noncomputable def I114 (cn : ByteArray) (aq nq mq : Nat) (tq : NI) (rp fl : Int) : St114 → Hd := fun s => s.elim
noncomputable def q114 (cn : ByteArray) (aq nq mq : Nat) (tq : NI) (rp fl : Int) : St114 → Option (St114 ⊕ Rt114) := fun s => s.elim
noncomputable def p114 (cn : ByteArray) (aq nq mq : Nat) (tq : NI) (rp fl : Int) : Option (St114 ⊕ Rt114) := bif (decide (aq + nq ≤ mq ∧ nq ≤ 1000000)) then (some (.inr (S.mkl nq fun j => tq (j + aq)))) else (none)
def Te114 (test : TT) (Kst : KS) (Kret : KR) (cn : ByteArray) (aq nq mq : Nat) (tq : NI) (rp fl : Int) : Prop := test (decide (aq + nq ≤ mq ∧ nq ≤ 1000000)) (Kret (PV.agg [PV.str cn, PV.own (4) (1) nq, PV.int .i64 rp, PV.int .i64 fl]) ([[(0, false, Blk.cols mq [Col.int .i64 tq]), (4, true, Blk.cols nq [Col.int .i64 fun j => tq (j + aq)])]]) (5)) (False)
theorem te114 (test : TT) (Kst : KS) (Kret : KR) (cn : ByteArray) (aq nq mq : Nat) (tq : NI) (rp fl : Int) : run test Try.env true (xA1 test) true 400 ⟨14, [.cd (mkFn Try.f14).body], argT 0 [.agg [.str cn, .loose ⟨0, 1, aq, 0⟩ nq, .int .i64 rp, .int .i64 fl]], [[], [(0, (false, .cols mq [.int .i64 tq]))]], 1⟩ (proj 1 [] Kst Kret) =
  Te114 test Kst Kret cn aq nq mq tq rp fl := by kernel_rfl
attribute [local irreducible] Int.subNatNat in
theorem be114 (cn : ByteArray) (aq nq mq : Nat) (tq : NI) (rp fl : Int) (Kst : KS) (Kret : KR) (x : St114 ⊕ Rt114) (hS : HS 1 400 ((I114 cn aq nq mq tq rp fl)) Kst x) (hR : HR 1 400 ((V114 cn aq nq mq tq rp fl)) (fun r => [newL (1 + 1) ((N114 cn aq nq mq tq rp fl) r) ++ [(0, (false, .cols mq [.int .i64 tq]))]]) Kret x) (h : p114 cn aq nq mq tq rp fl = some x) : Te114 cond Kst Kret cn aq nq mq tq rp fl := by
  unfold Te114
  unfold p114 at h
  exact bif_split h (fun c0 h => ret_at hR _ h (fun n => bif Nat.beq n 2 then 4 else n) rfl rfl rfl (rn_agg ⟨(rn_str rfl), (rn_own (use_own rfl) rfl mkl_len), (rn_int rfl), (rn_int rfl), trivial⟩) rfl (entl_new (use_own rfl) rfl (Nat.le_of_eq mkl_len) (rcs_int (fun _ hj => col_mkl (fun (t : Int) => t) hj) rcs_nil) (entl_bor (use_lo rfl) rfl rfl entl_nil))) (fun c0 h => no_some h)
theorem a114 (cn : ByteArray) (aq nq mq : Nat) (tq : NI) (rp fl : Int) {r : Rt114} (h : Goes ((q114 cn aq nq mq tq rp fl)) ((p114 cn aq nq mq tq rp fl)) r) : CallR Try.prog 14 [.agg [.str cn, .loose ⟨0, 1, aq, 0⟩ nq, .int .i64 rp, .int .i64 fl]] [[(0, (false, .cols mq [.int .i64 tq]))]] 1 ((V114 cn aq nq mq tq rp fl) r) ((fun r => [newL (1 + 1) ((N114 cn aq nq mq tq rp fl) r) ++ [(0, (false, .cols mq [.int .i64 tq]))]]) r) 400 ∧ ∃ F, Try.prog.funcs[14]? = some F ∧ F.body.isSome = true ∧ (F.name == "runtime.NumGoroutine") = false := by
  refine dec_calls (f := 14) (lo := 1) (hi := 400) (H := [[(0, (false, .cols mq [.int .i64 tq]))]]) (args := [.agg [.str cn, .loose ⟨0, 1, aq, 0⟩ nq, .int .i64 rp, .int .i64 fl]]) Try.envOk Try.mixed xA1_ok ((I114 cn aq nq mq tq rp fl)) ((V114 cn aq nq mq tq rp fl)) (fun r => [newL (1 + 1) ((N114 cn aq nq mq tq rp fl) r) ++ [(0, (false, .cols mq [.int .i64 tq]))]]) (fn := mkFn Try.f14) (ts := []) (n := 400) rfl (by decide) (by simp) (names_of rfl) ?_ ?_ ?_ h
  · intro s; exact s.elim
  · intro Kst Kret x hS hR h
    exact Holds.eq (te114 cond Kst Kret cn aq nq mq tq rp fl) (be114 cn aq nq mq tq rp fl Kst Kret x hS hR h)
  · intro Kst Kret x hS hR s h; exact s.elim
noncomputable abbrev w114 {α : Type} (g : ByteArray → Nat → Nat → Nat → (Nat → Int) → Int → Int → α) (x : (ByteArray × (Nat × Nat × Nat × (Nat → Int) × Unit) × Int × Int × Unit) × Unit) : α := g x.1.1 x.1.2.1.1 x.1.2.1.2.1 x.1.2.1.2.2.1 x.1.2.1.2.2.2.1 x.1.2.2.1 x.1.2.2.2.1
noncomputable def k114  : Con := ⟨14, [.agg [.plain (.str), .list [.int .i64], .plain (.int .i64), .plain (.int .i64)]], w114 (fun cn aq nq mq tq rp fl => decide (aq + nq ≤ mq ∧ nq ≤ 1000000)), w114 (fun cn aq nq mq tq rp fl => (V114 cn aq nq mq tq rp fl) ((S.mkl nq fun j => tq (j + aq)))), w114 (fun cn aq nq mq tq rp fl => (N114 cn aq nq mq tq rp fl) ((S.mkl nq fun j => tq (j + aq)))), fun _ _ => .dead⟩
theorem s114 (cn : ByteArray) (aq nq mq : Nat) (tq : Nat → Int) (rp fl : Int) (hp : aq + nq ≤ mq ∧ nq ≤ 1000000) : Goes ((q114 cn aq nq mq tq rp fl)) ((p114 cn aq nq mq tq rp fl)) ((S.mkl nq fun j => tq (j + aq))) := by
  obtain ⟨hp1, hp2⟩ := hp
  show Goes _ _ _
  unfold p114
  repeat' (first | with_reducible refine goes_if (fun h => ?_) (fun h => ?_) <;> (try simp only [SH] at h) | exact goes_none.mpr (by omega))
  all_goals first | (exfalso; omega) | exact goes_inr.mpr rfl
theorem k114_ok  : k114.ok Try.prog := by
  intro x hx
  obtain ⟨⟨cn, ⟨aq, nq, mq, tq, _⟩, rp, fl, _⟩, _⟩ := x
  obtain ⟨h1, h2⟩ := a114 cn aq nq mq tq rp fl (s114 cn aq nq mq tq rp fl (of_dec hx rfl))
  exact ⟨⟨400, (by decide : 1 + 1 + 1 ≤ 400), h1⟩, h2⟩
inductive St177 where
  | h0 (x0 : Int)
abbrev Rt177  := Int
noncomputable def V177 (al nl ml : Nat) (tl : NI) (r : Rt177) : PV := PV.int .i64 r
noncomputable def N177 (al nl ml : Nat) (tl : NI) (r : Rt177) : List Blk := []
noncomputable def I177 (al nl ml : Nat) (tl : NI) : St177 → Hd
  | .h0 x0 => ⟨hd Try.f77 0, [PV.loose (PA.mk (0) (1) al (0)) nl, PV.fn (Go.Fn.func (68)) [] [],
 PV.int .i64 (↑nl : Int), PV.int .i64 x0], [[], [(0, (false, .cols ml [.int .i64 tl]))]], 1⟩
noncomputable def q177 (al nl ml : Nat) (tl : NI) : St177 → Option (St177 ⊕ Rt177) | .h0 x0 => bif (decide (x0 < (↑nl : Int))) then (bif (decide ((0 : Int) ≤ x0 ∧ x0 < (↑nl : Int))) then (bif (decide (Int.toNat x0 + al < ml)) then (bif (decide (tl (Int.toNat x0 + al) ≥ -1099511627776)) then (bif (decide (tl (Int.toNat x0 + al) ≤ 1099511627776)) then (bif (lim .i64 (x0 + 1)) then (some (.inl (.h0 (x0 + 1)))) else (none)) else (some (.inr (x0)))) else (some (.inr (x0)))) else (none)) else (none)) else (some (.inr ((-1 : Int))))
noncomputable def p177 (al nl ml : Nat) (tl : NI) : Option (St177 ⊕ Rt177) := some (.inl (.h0 ((0 : Int))))
def Te177 (test : TT) (Kst : KS) (Kret : KR) (al nl ml : Nat) (tl : NI) : Prop := Kst (hd Try.f77 0) ([PV.loose (PA.mk (0) (1) al (0)) nl, PV.fn (Go.Fn.func (68)) [] [], PV.int .i64 (↑nl : Int), PV.int .i64 (0 : Int)]) ([[(0, false, Blk.cols ml [Col.int .i64 tl])]]) (1)
theorem te177 (test : TT) (Kst : KS) (Kret : KR) (al nl ml : Nat) (tl : NI) : run test Try.env true noX true 400 ⟨77, [.cd (mkFn Try.f77).body], argT 0 [.loose ⟨0, 1, al, 0⟩ nl, .fn (.func 68) [] []], [[], [(0, (false, .cols ml [.int .i64 tl]))]], 1⟩ (proj 1 [0, 1, 7, 8] Kst Kret) =
  Te177 test Kst Kret al nl ml tl := by kernel_rfl
def T177_0 (test : TT) (Kst : KS) (Kret : KR) (al nl ml : Nat) (tl : NI) (x0 : Int) : Prop := test (decide (x0 < (↑nl : Int))) (test (decide ((0 : Int) ≤ x0 ∧ x0 < (↑nl : Int))) (test (decide (Int.toNat x0 + al < ml)) (test (decide (tl (Int.toNat x0 + al) ≥ -1099511627776)) (test (decide (tl (Int.toNat x0 + al) ≤ 1099511627776)) (test (lim .i64 (x0 + 1)) (Kst (hd Try.f77 0) ([PV.loose (PA.mk (0) (1) al (0)) nl, PV.fn (Go.Fn.func (68)) [] [], PV.int .i64 (↑nl : Int), PV.int .i64 (x0 + 1)]) ([[(0, false, Blk.cols ml [Col.int .i64 tl])]]) (1)) (False)) (Kret (PV.int .i64 x0) ([[(0, false, Blk.cols ml [Col.int .i64 tl])]]) (1))) (Kret (PV.int .i64 x0) ([[(0, false, Blk.cols ml [Col.int .i64 tl])]]) (1))) (False)) (False)) (Kret (PV.int .i64 (-1 : Int)) ([[(0, false, Blk.cols ml [Col.int .i64 tl])]]) (1))
theorem t177_0 (test : TT) (Kst : KS) (Kret : KR) (al nl ml : Nat) (tl : NI) (x0 : Int) : run test Try.env true noX true 400 ⟨77, hd Try.f77 0, zipT [0, 1, 7, 8] [PV.loose (PA.mk (0) (1) al (0)) nl, PV.fn (Go.Fn.func (68)) [] [],
 PV.int .i64 (↑nl : Int), PV.int .i64 x0], [[], [(0, (false, .cols ml [.int .i64 tl]))]], 1⟩ (proj 1 [0, 1, 7, 8] Kst Kret) =
  T177_0 test Kst Kret al nl ml tl x0 := by kernel_rfl
noncomputable abbrev J177 (al nl ml : Nat) (tl : NI) : Rt177 → Heap := fun r => [newL (1 + 1) ((N177 al nl ml tl) r) ++ [(0, (false, .cols ml [.int .i64 tl]))]]
attribute [local irreducible] Int.subNatNat in
theorem be177 (al nl ml : Nat) (tl : NI) (Kst : KS) (Kret : KR) (x : St177 ⊕ Rt177) (hS : HS 1 400 ((I177 al nl ml tl)) Kst x) (hR : HR 1 400 ((V177 al nl ml tl)) (J177 al nl ml tl) Kret x) (h : (some (.inl (.h0 ((0 : Int)))) : Option (St177 ⊕ Rt177)) = some x) : Te177 cond Kst Kret al nl ml tl := by
  unfold Te177
  exact stop_at hS _ h (fun n => n) rfl rfl rfl ⟨(rn_loose (use_lo rfl) rfl rfl rfl), ⟨(rn_fn trivial trivial), ⟨(rn_int rfl), ⟨(rn_int rfl), trivial⟩⟩⟩⟩ rfl (entl_bor (use_lo rfl) rfl rfl entl_nil)
attribute [local irreducible] Int.subNatNat in
theorem b177_0 (al nl ml : Nat) (tl : NI) (Kst : KS) (Kret : KR) (x : St177 ⊕ Rt177) (hS : HS 1 400 ((I177 al nl ml tl)) Kst x) (hR : HR 1 400 ((V177 al nl ml tl)) (J177 al nl ml tl) Kret x) (x0 : Int) (h : q177 al nl ml tl (.h0 x0) = some x) : T177_0 cond Kst Kret al nl ml tl x0 := by
  unfold T177_0
  rw [q177] at h
  exact bif_split h (fun c0 h => bif_split h (fun c1 h => bif_split h (fun c2 h => bif_split h (fun c3 h => bif_split h (fun c4 h => bif_split h (fun c5 h => stop_at hS _ h (fun n => n) rfl rfl rfl ⟨(rn_loose (use_lo rfl) rfl rfl rfl), ⟨(rn_fn trivial trivial), ⟨(rn_int rfl), ⟨(rn_int rfl), trivial⟩⟩⟩⟩ rfl (entl_bor (use_lo rfl) rfl rfl entl_nil)) (fun c5 h => no_some h)) (fun c4 h => ret_at hR _ h (fun n => n) rfl rfl rfl (rn_int rfl) rfl (entl_bor (use_lo rfl) rfl rfl entl_nil))) (fun c3 h => ret_at hR _ h (fun n => n) rfl rfl rfl (rn_int rfl) rfl (entl_bor (use_lo rfl) rfl rfl entl_nil))) (fun c2 h => no_some h)) (fun c1 h => no_some h)) (fun c0 h => ret_at hR _ h (fun n => n) rfl rfl rfl (rn_int rfl) rfl (entl_bor (use_lo rfl) rfl rfl entl_nil))
theorem a177 (al nl ml : Nat) (tl : NI) {r : Rt177} (h : Goes ((q177 al nl ml tl)) ((p177 al nl ml tl)) r) : CallR Try.prog 77 [.loose ⟨0, 1, al, 0⟩ nl, .fn (.func 68) [] []] [[(0, (false, .cols ml [.int .i64 tl]))]] 1 ((V177 al nl ml tl) r) ((J177 al nl ml tl) r) 400 ∧ ∃ F, Try.prog.funcs[77]? = some F ∧ F.body.isSome = true ∧ (F.name == "runtime.NumGoroutine") = false := by
  refine dec_calls (f := 77) (lo := 1) (hi := 400) (H := [[(0, (false, .cols ml [.int .i64 tl]))]]) (args := [.loose ⟨0, 1, al, 0⟩ nl, .fn (.func 68) [] []]) Try.envOk Try.mixed noX_ok ((I177 al nl ml tl)) ((V177 al nl ml tl)) (J177 al nl ml tl) (fn := mkFn Try.f77) (ts := [0, 1, 7, 8]) (n := 400) rfl (by decide) (by simp) (names_of rfl) ?_ ?_ ?_ h
  · intro s; cases s <;> exact ⟨hd_ok _ _, by simp [I177], names_of rfl, Nat.le_of_ble_eq_true rfl⟩
  · intro Kst Kret x hS hR h
    exact Holds.eq (te177 cond Kst Kret al nl ml tl) (be177 al nl ml tl Kst Kret x hS hR h)
  · intro Kst Kret x hS hR s h
    cases s with
    | h0 x0 => exact Holds.eq (t177_0 cond Kst Kret al nl ml tl x0) (b177_0 al nl ml tl Kst Kret x hS hR x0 h)
noncomputable abbrev w177 {α : Type} (g : Nat → Nat → Nat → (Nat → Int) → α) (x : (Nat × Nat × Nat × (Nat → Int) × Unit) × (Unit) × Unit) : α := g x.1.1 x.1.2.1 x.1.2.2.1 x.1.2.2.2.1
noncomputable def k177  : Con := ⟨77, [.one (.list [.int .i64]), .fn 68 []], w177 (fun al nl ml tl => decide (al + nl ≤ ml ∧ nl ≤ 1000000)), w177 (fun al nl ml tl => (V177 al nl ml tl) (S.idx (fun j => !decide (-1099511627776 ≤ tl (j + al) ∧ tl (j + al) ≤ 1099511627776)) 0 nl)), w177 (fun al nl ml tl => (N177 al nl ml tl) (S.idx (fun j => !decide (-1099511627776 ≤ tl (j + al) ∧ tl (j + al) ≤ 1099511627776)) 0 nl)), fun _ _ => .dead⟩
theorem s177' (al nl ml : Nat) (tl : Nat → Int) (hp : al + nl ≤ ml ∧ nl ≤ 1000000) : ∀ k i : Nat, i + k = nl → Comes (q177 al nl ml tl) (.h0 (i : Int)) (S.idx (fun j => !decide (-1099511627776 ≤ tl (j + al) ∧ tl (j + al) ≤ 1099511627776)) i k) := by
  obtain ⟨hp1, hp2⟩ := hp
  intro k
  induction k with
  | zero =>
    intro i hi
    apply Comes.of
    show Goes _ _ _
    (first | rw [q177] | unfold q177)
    repeat' (first | with_reducible refine goes_if (fun h => ?_) (fun h => ?_) <;> (try simp only [SH] at h) | exact goes_none.mpr (by omega))
    all_goals first | (exfalso; omega) | rfl | (refine Eq.mpr (congrArg (Comes _ _) ?_) True; simp only [S.idx, Bool.and_eq_true, Bool.or_eq_true, decide_eq_true_eq, Bool.not_eq_true', decide_eq_false_iff_not]; (repeat' split) <;> first | rfl | omega | (exfalso; omega) | (exfalso; simp_all; done) | (exfalso; simp_all; omega) | simp_all) | (refine goes_inr.mpr ?_; simp only [S.idx, Bool.and_eq_true, Bool.or_eq_true, decide_eq_true_eq, Bool.not_eq_true', decide_eq_false_iff_not]; (repeat' split) <;> first | rfl | omega | (exfalso; omega) | (exfalso; simp_all; done) | (exfalso; simp_all; omega) | simp_all)
  | succ k ih =>
    intro i hi
    have ih := ih (i + 1) (by omega)
    apply Comes.of
    show Goes _ _ _
    (first | rw [q177] | unfold q177)
    repeat' (first | with_reducible refine goes_if (fun h => ?_) (fun h => ?_) <;> (try simp only [SH] at h) | exact goes_none.mpr (by omega))
    all_goals first | (exfalso; omega) | rfl | (refine Eq.mpr (congrArg (Comes _ _) ?_) ih; simp only [S.idx, Bool.and_eq_true, Bool.or_eq_true, decide_eq_true_eq, Bool.not_eq_true', decide_eq_false_iff_not]; (repeat' split) <;> first | rfl | omega | (exfalso; omega) | (exfalso; simp_all; done) | (exfalso; simp_all; omega) | simp_all) | (refine goes_inr.mpr ?_; simp only [S.idx, Bool.and_eq_true, Bool.or_eq_true, decide_eq_true_eq, Bool.not_eq_true', decide_eq_false_iff_not]; (repeat' split) <;> first | rfl | omega | (exfalso; omega) | (exfalso; simp_all; done) | (exfalso; simp_all; omega) | simp_all)
theorem s177 (al nl ml : Nat) (tl : Nat → Int) (hp : al + nl ≤ ml ∧ nl ≤ 1000000) : Goes ((q177 al nl ml tl)) ((p177 al nl ml tl)) (S.idx (fun j => !decide (-1099511627776 ≤ tl (j + al) ∧ tl (j + al) ≤ 1099511627776)) 0 nl) := by
  exact s177' al nl ml tl hp nl 0 (by omega)
theorem k177_ok  : k177.ok Try.prog := by
  intro x hx
  obtain ⟨⟨al, nl, ml, tl, _⟩, ⟨_⟩, _⟩ := x
  obtain ⟨h1, h2⟩ := a177 al nl ml tl (s177 al nl ml tl (of_dec hx rfl))
  exact ⟨⟨400, (by decide : 1 + 1 + 0 ≤ 400), h1⟩, h2⟩
noncomputable def xI1 (test : Bool → Prop → Prop → Prop) : Ext := consX test [k177]
theorem xI1_ok  : ExtOk Try.prog (xI1 cond) := consX_ok ⟨k177_ok, trivial⟩
abbrev St162  := Empty
abbrev Rt162  := Bool
noncomputable def V162 (al nl ml : Nat) (tl : NI) (r : Rt162) : PV := PV.bool r
noncomputable def N162 (al nl ml : Nat) (tl : NI) (r : Rt162) : List Blk := []
noncomputable def I162 (al nl ml : Nat) (tl : NI) : St162 → Hd := fun s => s.elim
noncomputable def q162 (al nl ml : Nat) (tl : NI) : St162 → Option (St162 ⊕ Rt162) := fun s => s.elim
noncomputable def p162 (al nl ml : Nat) (tl : NI) : Option (St162 ⊕ Rt162) := bif (decide (al + nl ≤ ml ∧ nl ≤ 1000000)) then (bif (decide (S.idx (fun j => !decide ((-1099511627776 : Int) ≤ tl (j + al) ∧ tl (j + al) ≤ 1099511627776)) (0) nl ≥ 0)) then (some (.inr (true))) else (some (.inr (false)))) else (none)
def Te162 (test : TT) (Kst : KS) (Kret : KR) (al nl ml : Nat) (tl : NI) : Prop := test (decide (al + nl ≤ ml ∧ nl ≤ 1000000)) (test (decide (S.idx (fun j => !decide ((-1099511627776 : Int) ≤ tl (j + al) ∧ tl (j + al) ≤ 1099511627776)) (0) nl ≥ 0)) (Kret (PV.tf true) ([[(0, false, Blk.cols ml [Col.int .i64 tl])]]) (2)) (Kret (PV.tf false) ([[(0, false, Blk.cols ml [Col.int .i64 tl])]]) (2))) (False)
theorem te162 (test : TT) (Kst : KS) (Kret : KR) (al nl ml : Nat) (tl : NI) : run test Try.env true (xI1 test) true 400 ⟨62, [.cd (mkFn Try.f62).body], argT 0 [.loose ⟨0, 1, al, 0⟩ nl, .fn (.func 68) [] []], [[], [(0, (false, .cols ml [.int .i64 tl]))]], 1⟩ (proj 1 [] Kst Kret) =
  Te162 test Kst Kret al nl ml tl := by kernel_rfl
noncomputable abbrev J162 (al nl ml : Nat) (tl : NI) : Rt162 → Heap := fun r => [newL (1 + 1) ((N162 al nl ml tl) r) ++ [(0, (false, .cols ml [.int .i64 tl]))]]
attribute [local irreducible] Int.subNatNat in
theorem be162 (al nl ml : Nat) (tl : NI) (Kst : KS) (Kret : KR) (x : St162 ⊕ Rt162) (hS : HS 1 400 ((I162 al nl ml tl)) Kst x) (hR : HR 1 400 ((V162 al nl ml tl)) (J162 al nl ml tl) Kret x) (h : p162 al nl ml tl = some x) : Te162 cond Kst Kret al nl ml tl := by
  unfold Te162
  unfold p162 at h
  exact bif_split h (fun c0 h => bif_split h (fun c1 h => ret_at hR _ h (fun n => n) rfl rfl rfl (rn_bool_tf rfl) rfl (entl_bor (use_lo rfl) rfl rfl entl_nil)) (fun c1 h => ret_at hR _ h (fun n => n) rfl rfl rfl (rn_bool_tf rfl) rfl (entl_bor (use_lo rfl) rfl rfl entl_nil))) (fun c0 h => no_some h)
theorem a162 (al nl ml : Nat) (tl : NI) {r : Rt162} (h : Goes ((q162 al nl ml tl)) ((p162 al nl ml tl)) r) : CallR Try.prog 62 [.loose ⟨0, 1, al, 0⟩ nl, .fn (.func 68) [] []] [[(0, (false, .cols ml [.int .i64 tl]))]] 1 ((V162 al nl ml tl) r) ((J162 al nl ml tl) r) 400 ∧ ∃ F, Try.prog.funcs[62]? = some F ∧ F.body.isSome = true ∧ (F.name == "runtime.NumGoroutine") = false := by
  refine dec_calls (f := 62) (lo := 1) (hi := 400) (H := [[(0, (false, .cols ml [.int .i64 tl]))]]) (args := [.loose ⟨0, 1, al, 0⟩ nl, .fn (.func 68) [] []]) Try.envOk Try.mixed xI1_ok ((I162 al nl ml tl)) ((V162 al nl ml tl)) (J162 al nl ml tl) (fn := mkFn Try.f62) (ts := []) (n := 400) rfl (by decide) (by simp) (names_of rfl) ?_ ?_ ?_ h
  · intro s; exact s.elim
  · intro Kst Kret x hS hR h
    exact Holds.eq (te162 cond Kst Kret al nl ml tl) (be162 al nl ml tl Kst Kret x hS hR h)
  · intro Kst Kret x hS hR s h; exact s.elim
noncomputable abbrev w162 {α : Type} (g : Nat → Nat → Nat → (Nat → Int) → α) (x : (Nat × Nat × Nat × (Nat → Int) × Unit) × (Unit) × Unit) : α := g x.1.1 x.1.2.1 x.1.2.2.1 x.1.2.2.2.1
noncomputable def k162  : Con := ⟨62, [.one (.list [.int .i64]), .fn 68 []], w162 (fun al nl ml tl => decide (al + nl ≤ ml ∧ nl ≤ 1000000)), w162 (fun al nl ml tl => (V162 al nl ml tl) (S.any (fun j => !decide (-1099511627776 ≤ tl (j + al) ∧ tl (j + al) ≤ 1099511627776)) nl)), w162 (fun al nl ml tl => (N162 al nl ml tl) (S.any (fun j => !decide (-1099511627776 ≤ tl (j + al) ∧ tl (j + al) ≤ 1099511627776)) nl)), fun _ _ => .dead⟩
theorem s162 (al nl ml : Nat) (tl : Nat → Int) (hp : al + nl ≤ ml ∧ nl ≤ 1000000) : Goes ((q162 al nl ml tl)) ((p162 al nl ml tl)) (S.any (fun j => !decide (-1099511627776 ≤ tl (j + al) ∧ tl (j + al) ≤ 1099511627776)) nl) := by
  have hp' := hp
  obtain ⟨hp1, hp2⟩ := hp
  rw [← idx_any (p := (fun j => !decide (-1099511627776 ≤ tl (j + al) ∧ tl (j + al) ≤ 1099511627776))) (n := nl)]
  show Goes _ _ _
  unfold p162
  repeat' (first | with_reducible refine goes_if (fun h => ?_) (fun h => ?_) <;> (try simp only [SH] at h) | exact goes_none.mpr (by omega))
  all_goals first | (exfalso; omega) | (exfalso; simp_all; done) | (refine goes_inr.mpr ?_; first | rfl | (symm; simp_all; done) | (symm; simp_all; omega))
theorem k162_ok  : k162.ok Try.prog := by
  intro x hx
  obtain ⟨⟨al, nl, ml, tl, _⟩, ⟨_⟩, _⟩ := x
  obtain ⟨h1, h2⟩ := a162 al nl ml tl (s162 al nl ml tl (of_dec hx rfl))
  exact ⟨⟨400, (by decide : 1 + 1 + 0 ≤ 400), h1⟩, h2⟩
noncomputable def xI2 (test : Bool → Prop → Prop → Prop) : Ext := consX test [k162]
theorem xI2_ok  : ExtOk Try.prog (xI2 cond) := consX_ok ⟨k162_ok, trivial⟩
abbrev St149  := Empty
abbrev Rt149  := Int
noncomputable def V149 (al nl ml : Nat) (tl : NI) (r : Rt149) : PV := PV.int .i64 r
noncomputable def N149 (al nl ml : Nat) (tl : NI) (r : Rt149) : List Blk := []
noncomputable def I149 (al nl ml : Nat) (tl : NI) : St149 → Hd := fun s => s.elim
noncomputable def q149 (al nl ml : Nat) (tl : NI) : St149 → Option (St149 ⊕ Rt149) := fun s => s.elim
noncomputable def p149 (al nl ml : Nat) (tl : NI) : Option (St149 ⊕ Rt149) := bif (decide ((↑nl : Int) > 500)) then (some (.inr ((3 : Int)))) else (bif (decide (al + nl ≤ ml ∧ nl ≤ 1000000)) then (bif (S.any (fun j => !decide ((-1099511627776 : Int) ≤ tl (j + al) ∧ tl (j + al) ≤ 1099511627776)) nl) then (some (.inr ((6 : Int)))) else (some (.inr ((0 : Int))))) else (none))
def Te149 (test : TT) (Kst : KS) (Kret : KR) (al nl ml : Nat) (tl : NI) : Prop := test (decide ((↑nl : Int) > 500)) (Kret (PV.int .i64 (3 : Int)) ([[(0, false, Blk.cols ml [Col.int .i64 tl])]]) (1)) (test (decide (al + nl ≤ ml ∧ nl ≤ 1000000)) (test (S.any (fun j => !decide ((-1099511627776 : Int) ≤ tl (j + al) ∧ tl (j + al) ≤ 1099511627776)) nl) (Kret (PV.int .i64 (6 : Int)) ([[(0, false, Blk.cols ml [Col.int .i64 tl])]]) (2)) (Kret (PV.int .i64 (0 : Int)) ([[(0, false, Blk.cols ml [Col.int .i64 tl])]]) (2))) (False))
theorem te149 (test : TT) (Kst : KS) (Kret : KR) (al nl ml : Nat) (tl : NI) : run test Try.env true (xI2 test) true 400 ⟨49, [.cd (mkFn Try.f49).body], argT 0 [.loose ⟨0, 1, al, 0⟩ nl], [[], [(0, (false, .cols ml [.int .i64 tl]))]], 1⟩ (proj 1 [] Kst Kret) =
  Te149 test Kst Kret al nl ml tl := by kernel_rfl
noncomputable abbrev J149 (al nl ml : Nat) (tl : NI) : Rt149 → Heap := fun r => [newL (1 + 1) ((N149 al nl ml tl) r) ++ [(0, (false, .cols ml [.int .i64 tl]))]]
attribute [local irreducible] Int.subNatNat in
theorem be149 (al nl ml : Nat) (tl : NI) (Kst : KS) (Kret : KR) (x : St149 ⊕ Rt149) (hS : HS 1 400 ((I149 al nl ml tl)) Kst x) (hR : HR 1 400 ((V149 al nl ml tl)) (J149 al nl ml tl) Kret x) (h : p149 al nl ml tl = some x) : Te149 cond Kst Kret al nl ml tl := by
  unfold Te149
  unfold p149 at h
  exact bif_split h (fun c0 h => ret_at hR _ h (fun n => n) rfl rfl rfl (rn_int rfl) rfl (entl_bor (use_lo rfl) rfl rfl entl_nil)) (fun c0 h => bif_split h (fun c1 h => bif_split h (fun c2 h => ret_at hR _ h (fun n => n) rfl rfl rfl (rn_int rfl) rfl (entl_bor (use_lo rfl) rfl rfl entl_nil)) (fun c2 h => ret_at hR _ h (fun n => n) rfl rfl rfl (rn_int rfl) rfl (entl_bor (use_lo rfl) rfl rfl entl_nil))) (fun c1 h => no_some h))
theorem a149 (al nl ml : Nat) (tl : NI) {r : Rt149} (h : Goes ((q149 al nl ml tl)) ((p149 al nl ml tl)) r) : CallR Try.prog 49 [.loose ⟨0, 1, al, 0⟩ nl] [[(0, (false, .cols ml [.int .i64 tl]))]] 1 ((V149 al nl ml tl) r) ((J149 al nl ml tl) r) 400 ∧ ∃ F, Try.prog.funcs[49]? = some F ∧ F.body.isSome = true ∧ (F.name == "runtime.NumGoroutine") = false := by
  refine dec_calls (f := 49) (lo := 1) (hi := 400) (H := [[(0, (false, .cols ml [.int .i64 tl]))]]) (args := [.loose ⟨0, 1, al, 0⟩ nl]) Try.envOk Try.mixed xI2_ok ((I149 al nl ml tl)) ((V149 al nl ml tl)) (J149 al nl ml tl) (fn := mkFn Try.f49) (ts := []) (n := 400) rfl (by decide) (by simp) (names_of rfl) ?_ ?_ ?_ h
  · intro s; exact s.elim
  · intro Kst Kret x hS hR h
    exact Holds.eq (te149 cond Kst Kret al nl ml tl) (be149 al nl ml tl Kst Kret x hS hR h)
  · intro Kst Kret x hS hR s h; exact s.elim
noncomputable abbrev w149 {α : Type} (g : Nat → Nat → Nat → (Nat → Int) → α) (x : (Nat × Nat × Nat × (Nat → Int) × Unit) × Unit) : α := g x.1.1 x.1.2.1 x.1.2.2.1 x.1.2.2.2.1
noncomputable def k149  : Con := ⟨49, [.one (.list [.int .i64])], w149 (fun al nl ml tl => decide (al + nl ≤ ml ∧ nl ≤ 1000000)), w149 (fun al nl ml tl => (V149 al nl ml tl) (S.setE nl (fun j => tl (j + al)))), w149 (fun al nl ml tl => (N149 al nl ml tl) (S.setE nl (fun j => tl (j + al)))), fun _ _ => .dead⟩
theorem s149 (al nl ml : Nat) (tl : Nat → Int) (hp : al + nl ≤ ml ∧ nl ≤ 1000000) : Goes ((q149 al nl ml tl)) ((p149 al nl ml tl)) (S.setE nl (fun j => tl (j + al))) := by
  obtain ⟨hp1, hp2⟩ := hp
  have e : S.all (fun j => decide (-1099511627776 ≤ tl (j + al) ∧ tl (j + al) ≤ 1099511627776)) nl = !S.any (fun j => !decide (-1099511627776 ≤ tl (j + al) ∧ tl (j + al) ≤ 1099511627776)) nl := by
    cases h : S.any (fun j => !decide (-1099511627776 ≤ tl (j + al) ∧ tl (j + al) ≤ 1099511627776)) nl
    · rw [any_no] at h
      exact all_iff.mpr fun j hj => by have := h j hj; rwa [Bool.not_eq_false'] at this
    · rw [any_iff] at h
      obtain ⟨j, hj, h⟩ := h
      rw [Bool.not_eq_true'] at h
      have := all_no (p := fun j => decide (-1099511627776 ≤ tl (j + al) ∧ tl (j + al) ≤ 1099511627776)) hj h
      rw [Bool.not_eq_true] at this
      exact this
  unfold S.setE p149
  rw [e]
  generalize S.any (fun j => !decide (-1099511627776 ≤ tl (j + al) ∧ tl (j + al) ≤ 1099511627776)) nl = A
  show Goes _ _ _
  cases A
  all_goals
   repeat' (first | with_reducible refine goes_if (fun h => ?_) (fun h => ?_) <;> (try simp only [SH] at h) | exact goes_none.mpr (by omega))
   all_goals first | (exfalso; omega) | (rw [if_neg (by omega)]; exact goes_inr.mpr rfl) | (rw [if_pos (by omega)]; exact goes_inr.mpr rfl) | (exfalso; simp_all; done)
theorem k149_ok  : k149.ok Try.prog := by
  intro x hx
  obtain ⟨⟨al, nl, ml, tl, _⟩, _⟩ := x
  obtain ⟨h1, h2⟩ := a149 al nl ml tl (s149 al nl ml tl (of_dec hx rfl))
  exact ⟨⟨400, (by decide : 1 + 1 + 0 ≤ 400), h1⟩, h2⟩
noncomputable def xB (test : Bool → Prop → Prop → Prop) : Ext := consX test [k21, k25, k37, k38, k42, k28, k49, k46, k47]
theorem xB_ok  : ExtOk Try.prog (xB cond) := consX_ok ⟨k21_ok, k25_ok, k37_ok, k38_ok, k42_ok, k28_ok, k49_ok, k46_ok, k47_ok, trivial⟩
inductive St17 where
  | h0 (x0 : Int) (x1 : Int)
abbrev Rt17  := Int × Int
noncomputable def V17 (ar nr mr : Nat) (tr vr gr : NI) (ao no mo : Nat) (to : Nat → Bool) (r : Rt17) : PV := PV.tup [PV.int .i64 r.1, PV.int .i64 r.2]
noncomputable def N17 (ar nr mr : Nat) (tr vr gr : NI) (ao no mo : Nat) (to : Nat → Bool) (r : Rt17) : List Blk := []
noncomputable def I17 (ar nr mr : Nat) (tr vr gr : NI) (ao no mo : Nat) (to : Nat → Bool) : St17 → Hd
  | .h0 x0 x1 => ⟨hd Try.f51 0, [PV.ptr (PA.mk (2) (0) (0) (0)), PV.int .i64 x0,
 PV.loose (PA.mk (0) (3) ar (0)) nr, PV.int .i64 (↑nr : Int),
 PV.int .i64 x1], [[(2, (true, Blk.cells
 [PV.loose (PA.mk (0) (3) ar (0)) nr,
 PV.loose (PA.mk (1) (1) ao (0)) no]))], [(0, (false, .cols mr [.int .i64 tr, .int .i64 vr, .int .i64 gr])), (1, (false, .cols mo [.bool to]))]], 3⟩
noncomputable def q17 (ar nr mr : Nat) (tr vr gr : NI) (ao no mo : Nat) (to : Nat → Bool) : St17 → Option (St17 ⊕ Rt17) | .h0 x0 x1 => bif (decide (x1 < (↑nr : Int))) then (bif (decide ((0 : Int) ≤ x1 ∧ x1 < (↑nr : Int))) then (bif (decide (Int.toNat x1 + ar < mr)) then (bif (decide ((0 : Int) ≤ x1 ∧ x1 < (↑no : Int))) then (bif (decide (Int.toNat x1 + ao < mo)) then (bif (to (Int.toNat x1 + ao)) then (bif (lim .i64 (x0 + gr (Int.toNat x1 + ar))) then (bif (lim .i64 (x1 + 1)) then (some (.inl (.h0 (x0 + gr (Int.toNat x1 + ar)) (x1 + 1)))) else (none)) else (none)) else (bif (lim .i64 (x1 + 1)) then (some (.inl (.h0 (x0) (x1 + 1)))) else (none))) else (none)) else (none)) else (none)) else (none)) else (some (.inr (x0, (0 : Int))))
noncomputable def p17 (ar nr mr : Nat) (tr vr gr : NI) (ao no mo : Nat) (to : Nat → Bool) : Option (St17 ⊕ Rt17) := bif (decide (ar + nr ≤ mr ∧ nr ≤ 1000000)) then (bif (S.magE nr (fun j => tr (j + ar)) (fun j => vr (j + ar)) (fun j => gr (j + ar)) no != 0) then (some (.inr ((0 : Int), S.magE nr (fun j => tr (j + ar)) (fun j => vr (j + ar)) (fun j => gr (j + ar)) no))) else (some (.inl (.h0 ((0 : Int)) ((0 : Int)))))) else (none)
def Te17 (test : TT) (Kst : KS) (Kret : KR) (ar nr mr : Nat) (tr vr gr : NI) (ao no mo : Nat) (to : Nat → Bool) : Prop := test (decide (ar + nr ≤ mr ∧ nr ≤ 1000000)) (test (S.magE nr (fun j => tr (j + ar)) (fun j => vr (j + ar)) (fun j => gr (j + ar)) no != 0) (Kret (PV.tup [PV.int .i64 (0 : Int), PV.int .i64 (S.magE nr (fun j => tr (j + ar)) (fun j => vr (j + ar)) (fun j => gr (j + ar)) no)]) ([[(1, false, Blk.cols mo [Col.bool to]), (0, false, Blk.cols mr [Col.int .i64 tr, Col.int .i64 vr, Col.int .i64 gr])]]) (4)) (Kst (hd Try.f51 0) ([PV.ptr (PA.mk (2) (0) (0) (0)), PV.int .i64 (0 : Int), PV.loose (PA.mk (0) (3) ar (0)) nr, PV.int .i64 (↑nr : Int), PV.int .i64 (0 : Int)]) ([[(1, false, Blk.cols mo [Col.bool to]), (0, false, Blk.cols mr [Col.int .i64 tr, Col.int .i64 vr, Col.int .i64 gr]), (2, true, Blk.cells [PV.loose (PA.mk (0) (3) ar (0)) nr, PV.loose (PA.mk (1) (1) ao (0)) no])]]) (4))) (False)
theorem te17 (test : TT) (Kst : KS) (Kret : KR) (ar nr mr : Nat) (tr vr gr : NI) (ao no mo : Nat) (to : Nat → Bool) : run test Try.env true (xB test) true 400 ⟨51, [.cd (mkFn Try.f51).body], argT 0 [.agg [.loose ⟨0, 3, ar, 0⟩ nr, .loose ⟨1, 1, ao, 0⟩ no]], [[], [(0, (false, .cols mr [.int .i64 tr, .int .i64 vr, .int .i64 gr])), (1, (false, .cols mo [.bool to]))]], 2⟩ (proj 2 [1, 5, 14, 15, 16] Kst Kret) =
  Te17 test Kst Kret ar nr mr tr vr gr ao no mo to := by kernel_rfl
def T17_0 (test : TT) (Kst : KS) (Kret : KR) (ar nr mr : Nat) (tr vr gr : NI) (ao no mo : Nat) (to : Nat → Bool) (x0 x1 : Int) : Prop := test (decide (x1 < (↑nr : Int))) (test (decide ((0 : Int) ≤ x1 ∧ x1 < (↑nr : Int))) (test (decide (Int.toNat x1 + ar < mr)) (test (decide (Int.toNat x1 + ar < mr)) (test (decide (Int.toNat x1 + ar < mr)) (test (decide ((0 : Int) ≤ x1 ∧ x1 < (↑no : Int))) (test (decide (Int.toNat x1 + ao < mo)) (test (to (Int.toNat x1 + ao)) (test (lim .i64 (x0 + gr (Int.toNat x1 + ar))) (test (lim .i64 (x1 + 1)) (Kst (hd Try.f51 0) ([PV.ptr (PA.mk (2) (0) (0) (0)), PV.int .i64 (x0 + gr (Int.toNat x1 + ar)), PV.loose (PA.mk (0) (3) ar (0)) nr, PV.int .i64 (↑nr : Int), PV.int .i64 (x1 + 1)]) ([[(1, false, Blk.cols mo [Col.bool to]), (0, false, Blk.cols mr [Col.int .i64 tr, Col.int .i64 vr, Col.int .i64 gr]), (2, true, Blk.cells [PV.loose (PA.mk (0) (3) ar (0)) nr, PV.loose (PA.mk (1) (1) ao (0)) no])]]) (4)) (False)) (False)) (test (lim .i64 (x1 + 1)) (Kst (hd Try.f51 0) ([PV.ptr (PA.mk (2) (0) (0) (0)), PV.int .i64 x0, PV.loose (PA.mk (0) (3) ar (0)) nr, PV.int .i64 (↑nr : Int), PV.int .i64 (x1 + 1)]) ([[(1, false, Blk.cols mo [Col.bool to]), (0, false, Blk.cols mr [Col.int .i64 tr, Col.int .i64 vr, Col.int .i64 gr]), (2, true, Blk.cells [PV.loose (PA.mk (0) (3) ar (0)) nr, PV.loose (PA.mk (1) (1) ao (0)) no])]]) (4)) (False))) (False)) (False)) (False)) (False)) (False)) (False)) (Kret (PV.tup [PV.int .i64 x0, PV.int .i64 (0 : Int)]) ([[(1, false, Blk.cols mo [Col.bool to]), (0, false, Blk.cols mr [Col.int .i64 tr, Col.int .i64 vr, Col.int .i64 gr])]]) (3))
theorem t17_0 (test : TT) (Kst : KS) (Kret : KR) (ar nr mr : Nat) (tr vr gr : NI) (ao no mo : Nat) (to : Nat → Bool) (x0 x1 : Int) : run test Try.env true (xB test) true 400 ⟨51, hd Try.f51 0, zipT [1, 5, 14, 15, 16] [PV.ptr (PA.mk (2) (0) (0) (0)), PV.int .i64 x0,
 PV.loose (PA.mk (0) (3) ar (0)) nr, PV.int .i64 (↑nr : Int),
 PV.int .i64 x1], [[(2, (true, Blk.cells
 [PV.loose (PA.mk (0) (3) ar (0)) nr,
 PV.loose (PA.mk (1) (1) ao (0)) no]))], [(0, (false, .cols mr [.int .i64 tr, .int .i64 vr, .int .i64 gr])), (1, (false, .cols mo [.bool to]))]], 3⟩ (proj 2 [1, 5, 14, 15, 16] Kst Kret) =
  T17_0 test Kst Kret ar nr mr tr vr gr ao no mo to x0 x1 := by kernel_rfl
noncomputable abbrev J17 (ar nr mr : Nat) (tr : NI) (vr : NI) (gr : NI) (ao no mo : Nat) (to : Nat → Bool) : Rt17 → Heap := fun r => [newL (2 + 1) ((N17 ar nr mr tr vr gr ao no mo to) r) ++ [(0, (false, .cols mr [.int .i64 tr, .int .i64 vr, .int .i64 gr])), (1, (false, .cols mo [.bool to]))]]
attribute [local irreducible] Int.subNatNat in
theorem be17 (ar nr mr : Nat) (tr vr gr : NI) (ao no mo : Nat) (to : Nat → Bool) (Kst : KS) (Kret : KR) (x : St17 ⊕ Rt17) (hS : HS 2 400 ((I17 ar nr mr tr vr gr ao no mo to)) Kst x) (hR : HR 2 400 ((V17 ar nr mr tr vr gr ao no mo to)) (J17 ar nr mr tr vr gr ao no mo to) Kret x) (h : p17 ar nr mr tr vr gr ao no mo to = some x) : Te17 cond Kst Kret ar nr mr tr vr gr ao no mo to := by
  unfold Te17
  unfold p17 at h
  exact bif_split h (fun c0 h => bif_split h (fun c1 h => ret_at hR _ h (fun n => n) rfl rfl rfl (rn_tup ⟨(rn_int rfl), (rn_int rfl), trivial⟩) rfl (entl_bor (use_lo rfl) rfl rfl (entl_bor (use_lo rfl) rfl rfl entl_nil))) (fun c1 h => stop_at hS _ h (fun n => bif Nat.beq n 2 then 2 else n) rfl rfl rfl ⟨(rn_ptr (use_own rfl) rfl rfl), ⟨(rn_int rfl), ⟨(rn_loose (use_lo rfl) rfl rfl rfl), ⟨(rn_int rfl), ⟨(rn_int rfl), trivial⟩⟩⟩⟩⟩ rfl (entl_b (use_own rfl) rfl (by simp) (rb_cells ⟨(rn_loose (use_lo rfl) rfl rfl rfl), (rn_loose (use_lo rfl) rfl rfl rfl), trivial⟩) (entl_bor (use_lo rfl) rfl rfl (entl_bor (use_lo rfl) rfl rfl entl_nil))))) (fun c0 h => no_some h)
attribute [local irreducible] Int.subNatNat in
theorem b17_0 (ar nr mr : Nat) (tr vr gr : NI) (ao no mo : Nat) (to : Nat → Bool) (Kst : KS) (Kret : KR) (x : St17 ⊕ Rt17) (hS : HS 2 400 ((I17 ar nr mr tr vr gr ao no mo to)) Kst x) (hR : HR 2 400 ((V17 ar nr mr tr vr gr ao no mo to)) (J17 ar nr mr tr vr gr ao no mo to) Kret x) (x0 x1 : Int) (h : q17 ar nr mr tr vr gr ao no mo to (.h0 x0 x1) = some x) : T17_0 cond Kst Kret ar nr mr tr vr gr ao no mo to x0 x1 := by
  unfold T17_0
  rw [q17] at h
  refine bif_split h (fun c0 h => bif_split h (fun c1 h => bif_split h (fun c2 h => cond_yes c2 (cond_yes c2 (bif_split h (fun c3 h => bif_split h (fun c4 h => bif_split h (fun c5 h => bif_split h (fun c6 h => bif_split h (fun c7 h => ?_) (fun c7 h => ?_)) (fun c6 h => ?_)) (fun c5 h => bif_split h (fun c6 h => ?_) (fun c6 h => ?_))) (fun c4 h => ?_)) (fun c3 h => ?_)))) (fun c2 h => ?_)) (fun c1 h => ?_)) (fun c0 h => ret_at hR _ h (fun n => n) rfl rfl rfl (rn_tup ⟨(rn_int rfl), (rn_int rfl), trivial⟩) rfl (entl_bor (use_lo rfl) rfl rfl (entl_bor (use_lo rfl) rfl rfl entl_nil)))
  all_goals first
    | exact no_some h
    | exact stop_at hS _ h (fun n => bif Nat.beq n 2 then 2 else n) rfl rfl rfl ⟨(rn_ptr (use_own rfl) rfl rfl), ⟨(rn_int rfl), ⟨(rn_loose (use_lo rfl) rfl rfl rfl), ⟨(rn_int rfl), ⟨(rn_int rfl), trivial⟩⟩⟩⟩⟩ rfl (entl_b (use_own rfl) rfl (by simp) (rb_cells ⟨(rn_loose (use_lo rfl) rfl rfl rfl), (rn_loose (use_lo rfl) rfl rfl rfl), trivial⟩) (entl_bor (use_lo rfl) rfl rfl (entl_bor (use_lo rfl) rfl rfl entl_nil)))
theorem a17 (ar nr mr : Nat) (tr vr gr : NI) (ao no mo : Nat) (to : Nat → Bool) {r : Rt17} (h : Goes ((q17 ar nr mr tr vr gr ao no mo to)) ((p17 ar nr mr tr vr gr ao no mo to)) r) : CallR Try.prog 51 [.agg [.loose ⟨0, 3, ar, 0⟩ nr, .loose ⟨1, 1, ao, 0⟩ no]] [[(0, (false, .cols mr [.int .i64 tr, .int .i64 vr, .int .i64 gr])), (1, (false, .cols mo [.bool to]))]] 2 ((V17 ar nr mr tr vr gr ao no mo to) r) ((J17 ar nr mr tr vr gr ao no mo to) r) 400 ∧ ∃ F, Try.prog.funcs[51]? = some F ∧ F.body.isSome = true ∧ (F.name == "runtime.NumGoroutine") = false := by
  refine dec_calls (f := 51) (lo := 2) (hi := 400) (H := [[(0, (false, .cols mr [.int .i64 tr, .int .i64 vr, .int .i64 gr])), (1, (false, .cols mo [.bool to]))]]) (args := [.agg [.loose ⟨0, 3, ar, 0⟩ nr, .loose ⟨1, 1, ao, 0⟩ no]]) Try.envOk Try.mixed xB_ok ((I17 ar nr mr tr vr gr ao no mo to)) ((V17 ar nr mr tr vr gr ao no mo to)) (J17 ar nr mr tr vr gr ao no mo to) (fn := mkFn Try.f51) (ts := [1, 5, 14, 15, 16]) (n := 400) rfl (by decide) (by simp) (names_of rfl) ?_ ?_ ?_ h
  · intro s; cases s <;> exact ⟨hd_ok _ _, by simp [I17], names_of rfl, Nat.le_of_ble_eq_true rfl⟩
  · intro Kst Kret x hS hR h
    exact Holds.eq (te17 cond Kst Kret ar nr mr tr vr gr ao no mo to) (be17 ar nr mr tr vr gr ao no mo to Kst Kret x hS hR h)
  · intro Kst Kret x hS hR s h
    cases s with
    | h0 x0 x1 => exact Holds.eq (t17_0 cond Kst Kret ar nr mr tr vr gr ao no mo to x0 x1) (b17_0 ar nr mr tr vr gr ao no mo to Kst Kret x hS hR x0 x1 h)
noncomputable abbrev w17 {α : Type} (g : Nat → Nat → Nat → (Nat → Int) → (Nat → Int) → (Nat → Int) → Nat → Nat → Nat → (Nat → Bool) → α) (x : ((Nat × Nat × Nat × (Nat → Int) × (Nat → Int) × (Nat → Int) × Unit) × (Nat × Nat × Nat × (Nat → Bool) × Unit) × Unit) × Unit) : α := g x.1.1.1 x.1.1.2.1 x.1.1.2.2.1 x.1.1.2.2.2.1 x.1.1.2.2.2.2.1 x.1.1.2.2.2.2.2.1 x.1.2.1.1 x.1.2.1.2.1 x.1.2.1.2.2.1 x.1.2.1.2.2.2.1
noncomputable def k17  : Con := ⟨51, [.agg [.list [.int .i64, .int .i64, .int .i64], .list [.bool]]], w17 (fun ar nr mr tr vr gr ao no mo to => decide (ar + nr ≤ mr ∧ nr ≤ 1000000 ∧ ao + no ≤ mo ∧ no ≤ 1000000)), w17 (fun ar nr mr tr vr gr ao no mo to => (V17 ar nr mr tr vr gr ao no mo to) (S.fieldS nr (fun j => tr (j + ar)) (fun j => vr (j + ar)) (fun j => gr (j + ar)) no (fun j => to (j + ao)))), w17 (fun ar nr mr tr vr gr ao no mo to => (N17 ar nr mr tr vr gr ao no mo to) (S.fieldS nr (fun j => tr (j + ar)) (fun j => vr (j + ar)) (fun j => gr (j + ar)) no (fun j => to (j + ao)))), fun _ _ => .dead⟩
theorem s17' (ar nr mr : Nat) (tr vr gr : Nat → Int) (ao no mo : Nat) (to : Nat → Bool) (hp : ar + nr ≤ mr ∧ nr ≤ 1000000 ∧ ao + no ≤ mo ∧ no ≤ 1000000) (hv : S.magE nr (fun j => tr (j + ar)) (fun j => vr (j + ar)) (fun j => gr (j + ar)) no = 0) : ∀ k i : Nat, i + k = nr → Comes (q17 ar nr mr tr vr gr ao no mo to) (.h0 (S.fldN (fun j => gr (j + ar)) (fun j => to (j + ao)) i) (i : Int)) ((S.fldN (fun j => gr (j + ar)) (fun j => to (j + ao)) nr, 0)) := by
  obtain ⟨hp1, hp2, hp3, hp4⟩ := hp
  intro k
  induction k with
  | zero =>
    intro i hi
    obtain ⟨v1, v2, v3, v4⟩ := mag_ok hv
    have g := fld_ge (w := (fun j => gr (j + ar))) (o := (fun j => to (j + ao))) (n := nr) (fun j hj => by have := v4 j hj; omega) i (by omega)
    have w : i < nr → _ := fun h => v4 i h
    apply Comes.of
    show Goes _ _ _
    (first | rw [q17] | unfold q17)
    repeat' (first | with_reducible refine goes_if (fun h => ?_) (fun h => ?_) <;> (try simp only [SH] at h) | exact goes_none.mpr (by omega))
    all_goals first | (exfalso; omega) | (obtain rfl : nr = i := (by omega); rfl)
  | succ k ih =>
    intro i hi
    have ih := ih (i + 1) (by omega)
    obtain ⟨v1, v2, v3, v4⟩ := mag_ok hv
    have g := fld_ge (w := (fun j => gr (j + ar))) (o := (fun j => to (j + ao))) (n := nr) (fun j hj => by have := v4 j hj; omega) i (by omega)
    have w : i < nr → _ := fun h => v4 i h
    apply Comes.of
    show Goes _ _ _
    (first | rw [q17] | unfold q17)
    repeat' (first | with_reducible refine goes_if (fun h => ?_) (fun h => ?_) <;> (try simp only [SH] at h) | exact goes_none.mpr (by omega))
    all_goals first | (exfalso; omega) | (refine Eq.mpr (congrArg (fun s => Comes _ s _) ?_) ih; simp only [S.fldN, *, cond_true, cond_false]; rfl)
theorem s17 (ar nr mr : Nat) (tr vr gr : Nat → Int) (ao no mo : Nat) (to : Nat → Bool) (hp : ar + nr ≤ mr ∧ nr ≤ 1000000 ∧ ao + no ≤ mo ∧ no ≤ 1000000) : Goes ((q17 ar nr mr tr vr gr ao no mo to)) ((p17 ar nr mr tr vr gr ao no mo to)) (S.fieldS nr (fun j => tr (j + ar)) (fun j => vr (j + ar)) (fun j => gr (j + ar)) no (fun j => to (j + ao))) := by
  by_cases hv : S.magE nr (fun j => tr (j + ar)) (fun j => vr (j + ar)) (fun j => gr (j + ar)) no = 0
  · have hm := s17' ar nr mr tr vr gr ao no mo to hp hv nr 0 (by omega)
    obtain ⟨v1, v2, v3, v4⟩ := mag_ok hv
    obtain ⟨hp1, hp2, hp3, hp4⟩ := hp
    unfold S.fieldS
    rw [if_pos hv]
    show Goes _ _ _
    unfold p17
    repeat' (first | with_reducible refine goes_if (fun h => ?_) (fun h => ?_) <;> (try simp only [SH] at h) | exact goes_none.mpr (by omega))
    all_goals first | (exfalso; omega) | (exfalso; exact absurd hv (by assumption)) | exact hm | rfl
  · obtain ⟨hp1, hp2, hp3, hp4⟩ := hp
    unfold S.fieldS
    rw [if_neg hv]
    show Goes _ _ _
    unfold p17
    repeat' (first | with_reducible refine goes_if (fun h => ?_) (fun h => ?_) <;> (try simp only [SH] at h) | exact goes_none.mpr (by omega))
    all_goals first | (exfalso; omega) | (exfalso; exact hv (by assumption)) | rfl
theorem k17_ok  : k17.ok Try.prog := by
  intro x hx
  obtain ⟨⟨⟨ar, nr, mr, tr, vr, gr, _⟩, ⟨ao, no, mo, to, _⟩, _⟩, _⟩ := x
  obtain ⟨h1, h2⟩ := a17 ar nr mr tr vr gr ao no mo to (s17 ar nr mr tr vr gr ao no mo to (of_dec hx rfl))
  exact ⟨⟨400, (by decide : 2 + 1 + 0 ≤ 400), h1⟩, h2⟩
inductive St44 where
  | h0 (x0 : Int) (x1 : List Bool)
abbrev Rt44  := List Bool
noncomputable def V44 (ar nr mr : Nat) (tr vr gr : NI) (no mo : Nat) (to : Nat → Bool) (v : Int) (r : Rt44) : PV := PV.tup []
noncomputable def N44 (ar nr mr : Nat) (tr vr gr : NI) (no mo : Nat) (to : Nat → Bool) (v : Int) (r : Rt44) : List Blk := []
noncomputable def W44 (ar nr mr : Nat) (tr vr gr : Nat → Int) (no mo : Nat) (to : Nat → Bool) (v : Int) (r : Rt44) : Nat → Blk := fun n => bif Nat.beq n 1 then Blk.cols (List.length r) [Col.bool fun j => S.at' r j] else .dead
noncomputable def I44 (ar nr mr : Nat) (tr vr gr : NI) (no mo : Nat) (to : Nat → Bool) (v : Int) : St44 → Hd
  | .h0 x0 x1 => ⟨hd Try.f70 0, [PV.int .i64 v, PV.ptr (PA.mk (2) (0) (0) (0)),
 PV.loose (PA.mk (0) (3) ar (0)) nr, PV.int .i64 (↑nr : Int),
 PV.int .i64 x0], [[(2, (true, Blk.cells
 [PV.loose (PA.mk (0) (3) ar (0)) nr,
 PV.own (1) (1) (List.length x1)]))], [(0, (false, .cols mr [.int .i64 tr, .int .i64 vr, .int .i64 gr])), (1, (true, Blk.cols (List.length x1) [Col.bool fun j => S.at' x1 j]))]], 3⟩
noncomputable def q44 (ar nr mr : Nat) (tr vr gr : NI) (no mo : Nat) (to : Nat → Bool) (v : Int) : St44 → Option (St44 ⊕ Rt44) | .h0 x0 x1 => bif (decide (x0 < (↑nr : Int))) then (bif (decide ((0 : Int) ≤ x0 ∧ x0 < (↑nr : Int))) then (bif (decide (Int.toNat x0 + ar < mr)) then (bif (decide (v ≥ tr (Int.toNat x0 + ar))) then (bif (decide ((0 : Int) ≤ x0 ∧ x0 < (↑(List.length x1) : Int))) then (bif (decide (Int.toNat x0 < List.length x1)) then (bif (lim .i64 (x0 + 1)) then (some (.inl (.h0 (x0 + 1) (S.mkl (List.length x1) fun j => bif Nat.beq j (Int.toNat x0) then true else S.at' x1 j)))) else (none)) else (none)) else (none)) else (bif (decide (v ≤ vr (Int.toNat x0 + ar))) then (bif (decide ((0 : Int) ≤ x0 ∧ x0 < (↑(List.length x1) : Int))) then (bif (decide (Int.toNat x0 < List.length x1)) then (bif (lim .i64 (x0 + 1)) then (some (.inl (.h0 (x0 + 1) (S.mkl (List.length x1) fun j => bif Nat.beq j (Int.toNat x0) then false else S.at' x1 j)))) else (none)) else (none)) else (none)) else (bif (lim .i64 (x0 + 1)) then (some (.inl (.h0 (x0 + 1) (x1)))) else (none)))) else (none)) else (none)) else (some (.inr (x1)))
noncomputable def p44 (ar nr mr : Nat) (tr vr gr : NI) (no mo : Nat) (to : Nat → Bool) (v : Int) : Option (St44 ⊕ Rt44) := some (.inl (.h0 ((0 : Int)) (S.mkl no fun j => to j)))
def Te44 (test : TT) (Kst : KS) (Kret : KR) (ar nr mr : Nat) (tr vr gr : NI) (no mo : Nat) (to : Nat → Bool) (v : Int) : Prop := Kst (hd Try.f70 0) ([PV.int .i64 v, PV.ptr (PA.mk (2) (0) (0) (0)), PV.loose (PA.mk (0) (3) ar (0)) nr, PV.int .i64 (↑nr : Int), PV.int .i64 (0 : Int)]) ([[(1, true, Blk.cols no [Col.bool to]), (0, false, Blk.cols mr [Col.int .i64 tr, Col.int .i64 vr, Col.int .i64 gr]), (2, true, Blk.cells [PV.loose (PA.mk (0) (3) ar (0)) nr, PV.own (1) (1) no])]]) (3)
theorem te44 (test : TT) (Kst : KS) (Kret : KR) (ar nr mr : Nat) (tr vr gr : NI) (no mo : Nat) (to : Nat → Bool) (v : Int) : run test Try.env true noX true 400 ⟨70, [.cd (mkFn Try.f70).body], argT 0 [.agg [.loose ⟨0, 3, ar, 0⟩ nr, .own 1 1 no], .int .i64 v], [[], [(0, (false, .cols mr [.int .i64 tr, .int .i64 vr, .int .i64 gr])), (1, (true, .cols no [.bool to]))]], 2⟩ (proj 2 [1, 2, 7, 8, 9] Kst Kret) =
  Te44 test Kst Kret ar nr mr tr vr gr no mo to v := by kernel_rfl
noncomputable abbrev u44_0_0 (ar nr : Nat) (v x0 : Int) := ([PV.int IntKind.i64 v, PV.ptr (PA.mk (2) (0) (0) (0)), PV.loose (PA.mk (0) (3) ar (0)) nr, PV.int IntKind.i64 (↑nr : Int), PV.int IntKind.i64 (x0 + (1 : Int))])
noncomputable abbrev u44_0_1 (mr : Nat) (tr vr gr : Nat → Int) := (0, false, Blk.cols mr [Col.int IntKind.i64 tr, Col.int IntKind.i64 vr, Col.int IntKind.i64 gr])
noncomputable abbrev u44_0_2 (ar nr : Nat) (x1 : List Bool) := (2, true, Blk.cells [PV.loose (PA.mk (0) (3) ar (0)) nr, PV.own (1) (1) (List.length x1)])
def T44_0 (test : TT) (Kst : KS) (Kret : KR) (ar nr mr : Nat) (tr vr gr : NI) (no mo : Nat) (to : Nat → Bool) (v x0 : Int) (x1 : List Bool) : Prop := test (decide (x0 < (↑nr : Int))) (test (decide ((0 : Int) ≤ x0 ∧ x0 < (↑nr : Int))) (test (decide (Int.toNat x0 + ar < mr)) (test (decide (Int.toNat x0 + ar < mr)) (test (decide (Int.toNat x0 + ar < mr)) (test (decide (v ≥ tr (Int.toNat x0 + ar))) (test (decide (v ≥ tr (Int.toNat x0 + ar))) (test (decide ((0 : Int) ≤ x0 ∧ x0 < (↑(List.length x1) : Int))) (test (decide (Int.toNat x0 < List.length x1)) (test (lim .i64 (x0 + 1)) (Kst (hd Try.f70 0) (u44_0_0 ar nr v x0) ([[(1, true, Blk.cols (List.length x1) [Col.bool fun j => bif Nat.beq j (Int.toNat x0) then true else S.at' x1 j]), (u44_0_1 mr tr vr gr), (u44_0_2 ar nr x1)]]) (5)) (False)) (False)) (False)) (test (decide ((0 : Int) ≤ x0 ∧ x0 < (↑(List.length x1) : Int))) (test (decide (Int.toNat x0 < List.length x1)) (test (lim .i64 (x0 + 1)) (Kst (hd Try.f70 0) (u44_0_0 ar nr v x0) ([[(1, true, Blk.cols (List.length x1) [Col.bool fun j => bif Nat.beq j (Int.toNat x0) then false else S.at' x1 j]), (u44_0_1 mr tr vr gr), (u44_0_2 ar nr x1)]]) (5)) (False)) (False)) (False))) (test (decide (v ≤ vr (Int.toNat x0 + ar))) (test (decide (v ≥ tr (Int.toNat x0 + ar))) (test (decide ((0 : Int) ≤ x0 ∧ x0 < (↑(List.length x1) : Int))) (test (decide (Int.toNat x0 < List.length x1)) (test (lim .i64 (x0 + 1)) (Kst (hd Try.f70 0) (u44_0_0 ar nr v x0) ([[(1, true, Blk.cols (List.length x1) [Col.bool fun j => bif Nat.beq j (Int.toNat x0) then true else S.at' x1 j]), (u44_0_1 mr tr vr gr), (u44_0_2 ar nr x1)]]) (5)) (False)) (False)) (False)) (test (decide ((0 : Int) ≤ x0 ∧ x0 < (↑(List.length x1) : Int))) (test (decide (Int.toNat x0 < List.length x1)) (test (lim .i64 (x0 + 1)) (Kst (hd Try.f70 0) (u44_0_0 ar nr v x0) ([[(1, true, Blk.cols (List.length x1) [Col.bool fun j => bif Nat.beq j (Int.toNat x0) then false else S.at' x1 j]), (u44_0_1 mr tr vr gr), (u44_0_2 ar nr x1)]]) (5)) (False)) (False)) (False))) (test (lim .i64 (x0 + 1)) (Kst (hd Try.f70 0) (u44_0_0 ar nr v x0) ([[(1, true, Blk.cols (List.length x1) [Col.bool fun j => S.at' x1 j]), (u44_0_1 mr tr vr gr), (u44_0_2 ar nr x1)]]) (5)) (False)))) (False)) (False)) (False)) (False)) (Kret (PV.tup []) ([[(1, true, Blk.cols (List.length x1) [Col.bool fun j => S.at' x1 j]), (u44_0_1 mr tr vr gr)]]) (3))
theorem t44_0 (test : TT) (Kst : KS) (Kret : KR) (ar nr mr : Nat) (tr vr gr : NI) (no mo : Nat) (to : Nat → Bool) (v x0 : Int) (x1 : List Bool) : run test Try.env true noX true 400 ⟨70, hd Try.f70 0, zipT [1, 2, 7, 8, 9] [PV.int .i64 v, PV.ptr (PA.mk (2) (0) (0) (0)),
 PV.loose (PA.mk (0) (3) ar (0)) nr, PV.int .i64 (↑nr : Int),
 PV.int .i64 x0], [[(2, (true, Blk.cells
 [PV.loose (PA.mk (0) (3) ar (0)) nr,
 PV.own (1) (1) (List.length x1)]))], [(0, (false, .cols mr [.int .i64 tr, .int .i64 vr, .int .i64 gr])), (1, (true, Blk.cols (List.length x1) [Col.bool fun j => S.at' x1 j]))]], 3⟩ (proj 2 [1, 2, 7, 8, 9] Kst Kret) =
  T44_0 test Kst Kret ar nr mr tr vr gr no mo to v x0 x1 := by kernel_rfl
noncomputable abbrev J44 (ar nr mr : Nat) (tr : NI) (vr : NI) (gr : NI) (no mo : Nat) (to : Nat → Bool) (v : Int) : Rt44 → Heap := fun r => [newL (2 + 1) ((N44 ar nr mr tr vr gr no mo to v) r) ++ [(0, (false, .cols mr [.int .i64 tr, .int .i64 vr, .int .i64 gr])), (1, (true, ((W44 ar nr mr tr vr gr no mo to v) r 1)))]]
attribute [local irreducible] Int.subNatNat in
theorem be44 (ar nr mr : Nat) (tr vr gr : NI) (no mo : Nat) (to : Nat → Bool) (v : Int) (Kst : KS) (Kret : KR) (x : St44 ⊕ Rt44) (hS : HS 2 400 ((I44 ar nr mr tr vr gr no mo to v)) Kst x) (hR : HR 2 400 ((V44 ar nr mr tr vr gr no mo to v)) (J44 ar nr mr tr vr gr no mo to v) Kret x) (h : (some (.inl (.h0 ((0 : Int)) (S.mkl no fun j => to j))) : Option (St44 ⊕ Rt44)) = some x) : Te44 cond Kst Kret ar nr mr tr vr gr no mo to v := by
  unfold Te44
  exact stop_at hS _ h (fun n => bif Nat.beq n 2 then 2 else n) rfl rfl rfl ⟨(rn_int rfl), ⟨(rn_ptr (use_own rfl) rfl rfl), ⟨(rn_loose (use_lo rfl) rfl rfl rfl), ⟨(rn_int rfl), ⟨(rn_int rfl), trivial⟩⟩⟩⟩⟩ rfl (entl_b (use_own rfl) rfl (by simp) (rb_cells ⟨(rn_loose (use_lo rfl) rfl rfl rfl), (rn_own (use_lo rfl) rfl mkl_len), trivial⟩) (entl_bor (use_lo rfl) rfl rfl (entl_new (use_lo rfl) rfl (Nat.le_of_eq mkl_len) (rcs_bool (fun _ hj => col_mkl (fun (t : Bool) => t) hj) rcs_nil) entl_nil)))
attribute [local irreducible] Int.subNatNat in
theorem b44_0 (ar nr mr : Nat) (tr vr gr : NI) (no mo : Nat) (to : Nat → Bool) (v : Int) (Kst : KS) (Kret : KR) (x : St44 ⊕ Rt44) (hS : HS 2 400 ((I44 ar nr mr tr vr gr no mo to v)) Kst x) (hR : HR 2 400 ((V44 ar nr mr tr vr gr no mo to v)) (J44 ar nr mr tr vr gr no mo to v) Kret x) (x0 : Int) (x1 : List Bool) (h : q44 ar nr mr tr vr gr no mo to v (.h0 x0 x1) = some x) : T44_0 cond Kst Kret ar nr mr tr vr gr no mo to v x0 x1 := by
  unfold T44_0
  rw [q44] at h
  refine bif_split h (fun c0 h => bif_split h (fun c1 h => bif_split h (fun c2 h => cond_yes c2 (cond_yes c2 (bif_split h (fun c3 h => cond_yes c3 (bif_split h (fun c4 h => bif_split h (fun c5 h => bif_split h (fun c6 h => ?_) (fun c6 h => ?_)) (fun c5 h => ?_)) (fun c4 h => ?_))) (fun c3 h => bif_split h (fun c4 h => cond_no c3 (bif_split h (fun c5 h => bif_split h (fun c6 h => bif_split h (fun c7 h => ?_) (fun c7 h => ?_)) (fun c6 h => ?_)) (fun c5 h => ?_))) (fun c4 h => bif_split h (fun c5 h => stop_at hS _ h (fun n => bif Nat.beq n 2 then 2 else n) rfl rfl rfl ⟨(rn_int rfl), ⟨(rn_ptr (use_own rfl) rfl rfl), ⟨(rn_loose (use_lo rfl) rfl rfl rfl), ⟨(rn_int rfl), ⟨(rn_int rfl), trivial⟩⟩⟩⟩⟩ rfl (entl_b (use_own rfl) rfl (by simp) (rb_cells ⟨(rn_loose (use_lo rfl) rfl rfl rfl), (rn_own (use_lo rfl) rfl rfl), trivial⟩) (entl_bor (use_lo rfl) rfl rfl (entl_new (use_lo rfl) rfl (Nat.le_of_eq rfl) (rcs_bool (fun _ _ => rfl) rcs_nil) entl_nil)))) (fun c5 h => ?_)))))) (fun c2 h => ?_)) (fun c1 h => ?_)) (fun c0 h => ret_at hR _ h (fun n => n) rfl rfl rfl (rn_tup trivial) rfl (entl_bor (use_lo rfl) rfl rfl (entl_new (use_lo rfl) rfl (Nat.le_of_eq rfl) (rcs_bool (fun _ _ => rfl) rcs_nil) entl_nil)))
  all_goals first
    | exact no_some h
    | exact stop_at hS _ h (fun n => bif Nat.beq n 2 then 2 else n) rfl rfl rfl ⟨(rn_int rfl), ⟨(rn_ptr (use_own rfl) rfl rfl), ⟨(rn_loose (use_lo rfl) rfl rfl rfl), ⟨(rn_int rfl), ⟨(rn_int rfl), trivial⟩⟩⟩⟩⟩ rfl (entl_b (use_own rfl) rfl (by simp) (rb_cells ⟨(rn_loose (use_lo rfl) rfl rfl rfl), (rn_own (use_lo rfl) rfl mkl_len), trivial⟩) (entl_bor (use_lo rfl) rfl rfl (entl_new (use_lo rfl) rfl (Nat.le_of_eq mkl_len) (rcs_bool (fun _ hj => col_mkl (fun (t : Bool) => t) hj) rcs_nil) entl_nil)))
theorem a44 (ar nr mr : Nat) (tr vr gr : NI) (no mo : Nat) (to : Nat → Bool) (v : Int) {r : Rt44} (h : Goes ((q44 ar nr mr tr vr gr no mo to v)) ((p44 ar nr mr tr vr gr no mo to v)) r) : CallR Try.prog 70 [.agg [.loose ⟨0, 3, ar, 0⟩ nr, .own 1 1 no], .int .i64 v] [[(0, (false, .cols mr [.int .i64 tr, .int .i64 vr, .int .i64 gr])), (1, (true, .cols no [.bool to]))]] 2 ((V44 ar nr mr tr vr gr no mo to v) r) ((J44 ar nr mr tr vr gr no mo to v) r) 400 ∧ ∃ F, Try.prog.funcs[70]? = some F ∧ F.body.isSome = true ∧ (F.name == "runtime.NumGoroutine") = false := by
  refine dec_calls (f := 70) (lo := 2) (hi := 400) (H := [[(0, (false, .cols mr [.int .i64 tr, .int .i64 vr, .int .i64 gr])), (1, (true, .cols no [.bool to]))]]) (args := [.agg [.loose ⟨0, 3, ar, 0⟩ nr, .own 1 1 no], .int .i64 v]) Try.envOk Try.mixed noX_ok ((I44 ar nr mr tr vr gr no mo to v)) ((V44 ar nr mr tr vr gr no mo to v)) (J44 ar nr mr tr vr gr no mo to v) (fn := mkFn Try.f70) (ts := [1, 2, 7, 8, 9]) (n := 400) rfl (by decide) (by simp) (names_of rfl) ?_ ?_ ?_ h
  · intro s; cases s <;> exact ⟨hd_ok _ _, by simp [I44], names_of rfl, Nat.le_of_ble_eq_true rfl⟩
  · intro Kst Kret x hS hR h
    exact Holds.eq (te44 cond Kst Kret ar nr mr tr vr gr no mo to v) (be44 ar nr mr tr vr gr no mo to v Kst Kret x hS hR h)
  · intro Kst Kret x hS hR s h
    cases s with
    | h0 x0 x1 => exact Holds.eq (t44_0 cond Kst Kret ar nr mr tr vr gr no mo to v x0 x1) (b44_0 ar nr mr tr vr gr no mo to v Kst Kret x hS hR x0 x1 h)
noncomputable abbrev w44 {α : Type} (g : Nat → Nat → Nat → (Nat → Int) → (Nat → Int) → (Nat → Int) → Nat → Nat → (Nat → Bool) → Int → α) (x : ((Nat × Nat × Nat × (Nat → Int) × (Nat → Int) × (Nat → Int) × Unit) × (Nat × Nat × (Nat → Bool) × Unit) × Unit) × Int × Unit) : α := g x.1.1.1 x.1.1.2.1 x.1.1.2.2.1 x.1.1.2.2.2.1 x.1.1.2.2.2.2.1 x.1.1.2.2.2.2.2.1 x.1.2.1.1 x.1.2.1.2.1 x.1.2.1.2.2.1 x.2.1
noncomputable def k44  : Con := ⟨70, [.agg [.list [.int .i64, .int .i64, .int .i64], .own [.bool]], .one (.plain (.int .i64))], w44 (fun ar nr mr tr vr gr no mo to v => decide (ar + nr ≤ mr ∧ nr ≤ 1000000 ∧ no = nr)), w44 (fun ar nr mr tr vr gr no mo to v => (V44 ar nr mr tr vr gr no mo to v) (S.mkl no fun j => S.aft (tr (j + ar)) (vr (j + ar)) (to j) v)), w44 (fun ar nr mr tr vr gr no mo to v => (N44 ar nr mr tr vr gr no mo to v) (S.mkl no fun j => S.aft (tr (j + ar)) (vr (j + ar)) (to j) v)), w44 (fun ar nr mr tr vr gr no mo to v => (W44 ar nr mr tr vr gr no mo to v) (S.mkl no fun j => S.aft (tr (j + ar)) (vr (j + ar)) (to j) v))⟩
theorem s44' (ar nr mr : Nat) (tr vr gr : Nat → Int) (no mo : Nat) (to : Nat → Bool) (v : Int) (hp : ar + nr ≤ mr ∧ nr ≤ 1000000 ∧ no = nr) : ∀ (k i : Nat) (l : List Bool), i + k = nr → Holds (l = (S.mkl no fun j => if j < i then S.aft (tr (j + ar)) (vr (j + ar)) (to j) v else to j)) → Comes (q44 ar nr mr tr vr gr no mo to v) (.h0 (i : Int) l) (S.mkl no fun j => S.aft (tr (j + ar)) (vr (j + ar)) (to j) v) := by
  obtain ⟨hp1, hp2, hp3⟩ := hp
  intro k
  induction k with
  | zero =>
    intro i l hi el
    have hl : l.length = no := by rw [el.get]; exact mkl_len
    apply Comes.of
    show Goes _ _ _
    (first | rw [q44] | unfold q44)
    repeat' (first | with_reducible refine goes_if (fun h => ?_) (fun h => ?_) <;> (try simp only [SH] at h) | exact goes_none.mpr (by omega))
    all_goals first | (exfalso; omega) | (obtain rfl : nr = i := (by omega);  refine goes_inr.mpr ?_; rw [el.get]; exact mkl_congr fun j hj => if_pos (by omega))
  | succ k ih =>
    intro i l hi el
    have hl : l.length = no := by rw [el.get]; exact mkl_len
    apply Comes.of
    show Goes _ _ _
    (first | rw [q44] | unfold q44)
    repeat' (first | with_reducible refine goes_if (fun h => ?_) (fun h => ?_) <;> (try simp only [SH] at h) | exact goes_none.mpr (by omega))
    all_goals first
      | (exfalso; omega)
      | (refine ih (i + 1) _ (by omega) ⟨?_⟩; rw [hl, el.get]; exact upd_step (by unfold S.aft; simp only [Bool.cond_eq_ite, decide_eq_true_eq, Int.toNat_natCast]; (repeat' split) <;> first | rfl | omega)) | (refine ih (i + 1) _ (by omega) ⟨?_⟩; rw [el.get]; exact same_step (by unfold S.aft; simp only [Bool.cond_eq_ite, decide_eq_true_eq, Int.toNat_natCast]; (repeat' split) <;> first | rfl | omega))
      | (refine ih (i + 1) _ (by omega) ⟨?_⟩ <;> (simp only [Bool.cond_eq_ite, decide_eq_true_eq, ← el.get]; (repeat' split) <;> first | rfl | omega | (exfalso; omega) | (exfalso; simp_all; done) | (exfalso; simp_all; omega) | simp_all))
theorem s44 (ar nr mr : Nat) (tr vr gr : Nat → Int) (no mo : Nat) (to : Nat → Bool) (v : Int) (hp : ar + nr ≤ mr ∧ nr ≤ 1000000 ∧ no = nr) : Goes ((q44 ar nr mr tr vr gr no mo to v)) ((p44 ar nr mr tr vr gr no mo to v)) (S.mkl no fun j => S.aft (tr (j + ar)) (vr (j + ar)) (to j) v) := by
  have hm := s44' ar nr mr tr vr gr no mo to v hp nr 0 (S.mkl no fun j => to j) (by omega) ⟨upd_none⟩
  show Goes _ _ _
  unfold p44
  repeat' (first | with_reducible refine goes_if (fun h => ?_) (fun h => ?_) <;> (try simp only [SH] at h) | exact goes_none.mpr (by omega))
  all_goals first | (exfalso; omega) | exact hm
theorem k44_ok  : k44.ok Try.prog := by
  intro x hx
  obtain ⟨⟨⟨ar, nr, mr, tr, vr, gr, _⟩, ⟨no, mo, to, _⟩, _⟩, v, _⟩ := x
  obtain ⟨h1, h2⟩ := a44 ar nr mr tr vr gr no mo to v (s44 ar nr mr tr vr gr no mo to v (of_dec hx rfl))
  exact ⟨⟨400, (by decide : 2 + 1 + 0 ≤ 400), h1⟩, h2⟩
noncomputable def xC (test : Bool → Prop → Prop → Prop) : Ext := consX test [k21, k25, k37, k38, k42, k28, k49, k46, k47, k44, k17]
theorem xC_ok  : ExtOk Try.prog (xC cond) := consX_ok ⟨k21_ok, k25_ok, k37_ok, k38_ok, k42_ok, k28_ok, k49_ok, k46_ok, k47_ok, k44_ok, k17_ok, trivial⟩
inductive St34 where
  | h0 (x0 : Int)
abbrev Rt34  := Bool × Int
noncomputable def V34 (ar nr mr : Nat) (tr vr gr : NI) (ao no mo : Nat) (to : Nat → Bool) (al nl ml : Nat) (tl : NI) (r : Rt34) : PV := PV.tup [PV.bool r.1, PV.int .i64 r.2]
noncomputable def N34 (ar nr mr : Nat) (tr vr gr : NI) (ao no mo : Nat) (to : Nat → Bool) (al nl ml : Nat) (tl : NI) (r : Rt34) : List Blk := []
noncomputable def I34 (ar nr mr : Nat) (tr vr gr : NI) (ao no mo : Nat) (to : Nat → Bool) (al nl ml : Nat) (tl : NI) : St34 → Hd
  | .h0 x0 => ⟨hd Try.f43 0, [PV.loose (PA.mk (2) (1) al (0)) nl,
 PV.loose (PA.mk (0) (3) ar (0)) nr, PV.int .i64 (↑nr : Int),
 PV.int .i64 x0], [[], [(0, (false, .cols mr [.int .i64 tr, .int .i64 vr, .int .i64 gr])), (1, (false, .cols mo [.bool to])), (2, (false, .cols ml [.int .i64 tl]))]], 3⟩
noncomputable def q34 (ar nr mr : Nat) (tr vr gr : NI) (ao no mo : Nat) (to : Nat → Bool) (al nl ml : Nat) (tl : NI) : St34 → Option (St34 ⊕ Rt34) | .h0 x0 => bif (decide (x0 < (↑nr : Int))) then (bif (decide ((0 : Int) ≤ x0 ∧ x0 < (↑nr : Int))) then (bif (decide (Int.toNat x0 + ar < mr)) then (bif (decide (al + nl ≤ ml ∧ nl ≤ 1000000)) then (bif (S.any (fun j => decide (tl (j + al) ≥ tr (Int.toNat x0 + ar) ∨ tl (j + al) ≤ vr (Int.toNat x0 + ar))) nl) then (bif (lim .i64 (x0 + 1)) then (some (.inl (.h0 (x0 + 1)))) else (none)) else (some (.inr (false, (0 : Int))))) else (none)) else (none)) else (none)) else (some (.inr (true, (0 : Int))))
noncomputable def p34 (ar nr mr : Nat) (tr vr gr : NI) (ao no mo : Nat) (to : Nat → Bool) (al nl ml : Nat) (tl : NI) : Option (St34 ⊕ Rt34) := bif (decide (ar + nr ≤ mr ∧ nr ≤ 1000000 ∧ al + nl ≤ ml ∧ nl ≤ 1000000)) then (bif ((S.histE nr (fun j => tr (j + ar)) (fun j => vr (j + ar)) (fun j => gr (j + ar)) no nl fun j => tl (j + al)) != 0) then (some (.inr (false, S.histE nr (fun j => tr (j + ar)) (fun j => vr (j + ar)) (fun j => gr (j + ar)) no nl fun j => tl (j + al)))) else (some (.inl (.h0 ((0 : Int)))))) else (none)
def Te34 (test : TT) (Kst : KS) (Kret : KR) (ar nr mr : Nat) (tr vr gr : NI) (ao no mo : Nat) (to : Nat → Bool) (al nl ml : Nat) (tl : NI) : Prop := test (decide (ar + nr ≤ mr ∧ nr ≤ 1000000 ∧ al + nl ≤ ml ∧ nl ≤ 1000000)) (test ((S.histE nr (fun j => tr (j + ar)) (fun j => vr (j + ar)) (fun j => gr (j + ar)) no nl fun j => tl (j + al)) != 0) (Kret (PV.tup [PV.tf false, PV.int .i64 (S.histE nr (fun j => tr (j + ar)) (fun j => vr (j + ar)) (fun j => gr (j + ar)) no nl fun j => tl (j + al))]) ([[(2, false, Blk.cols ml [Col.int .i64 tl]), (1, false, Blk.cols mo [Col.bool to]), (0, false, Blk.cols mr [Col.int .i64 tr, Col.int .i64 vr, Col.int .i64 gr])]]) (5)) (Kst (hd Try.f43 0) ([PV.loose (PA.mk (2) (1) al (0)) nl, PV.loose (PA.mk (0) (3) ar (0)) nr, PV.int .i64 (↑nr : Int), PV.int .i64 (0 : Int)]) ([[(2, false, Blk.cols ml [Col.int .i64 tl]), (1, false, Blk.cols mo [Col.bool to]), (0, false, Blk.cols mr [Col.int .i64 tr, Col.int .i64 vr, Col.int .i64 gr])]]) (5))) (False)
theorem te34 (test : TT) (Kst : KS) (Kret : KR) (ar nr mr : Nat) (tr vr gr : NI) (ao no mo : Nat) (to : Nat → Bool) (al nl ml : Nat) (tl : NI) : run test Try.env true (xC test) true 400 ⟨43, [.cd (mkFn Try.f43).body], argT 0 [.agg [.loose ⟨0, 3, ar, 0⟩ nr, .loose ⟨1, 1, ao, 0⟩ no], .loose ⟨2, 1, al, 0⟩ nl], [[], [(0, (false, .cols mr [.int .i64 tr, .int .i64 vr, .int .i64 gr])), (1, (false, .cols mo [.bool to])), (2, (false, .cols ml [.int .i64 tl]))]], 3⟩ (proj 3 [1, 16, 17, 18] Kst Kret) =
  Te34 test Kst Kret ar nr mr tr vr gr ao no mo to al nl ml tl := by kernel_rfl
noncomputable abbrev u34_0_0 (mr : Nat) (tr vr gr : Nat → Int) (mo : Nat) (to : Nat → Bool) (ml : Nat) (tl : Nat → Int) := ([[(2, false, Blk.cols ml [Col.int IntKind.i64 tl]), (1, false, Blk.cols mo [Col.bool to]), (0, false, Blk.cols mr [Col.int IntKind.i64 tr, Col.int IntKind.i64 vr, Col.int IntKind.i64 gr])]])
def T34_0 (test : TT) (Kst : KS) (Kret : KR) (ar nr mr : Nat) (tr vr gr : NI) (ao no mo : Nat) (to : Nat → Bool) (al nl ml : Nat) (tl : NI) (x0 : Int) : Prop := test (decide (x0 < (↑nr : Int))) (test (decide ((0 : Int) ≤ x0 ∧ x0 < (↑nr : Int))) (test (decide (Int.toNat x0 + ar < mr)) (test (decide (Int.toNat x0 + ar < mr)) (test (decide (Int.toNat x0 + ar < mr)) (test (decide (al + nl ≤ ml ∧ nl ≤ 1000000)) (test (S.any (fun j => decide (tl (j + al) ≥ tr (Int.toNat x0 + ar) ∨ tl (j + al) ≤ vr (Int.toNat x0 + ar))) nl) (test (lim .i64 (x0 + 1)) (Kst (hd Try.f43 0) ([PV.loose (PA.mk (2) (1) al (0)) nl, PV.loose (PA.mk (0) (3) ar (0)) nr, PV.int .i64 (↑nr : Int), PV.int .i64 (x0 + 1)]) (u34_0_0 mr tr vr gr mo to ml tl) (5)) (False)) (Kret (PV.tup [PV.tf false, PV.int .i64 (0 : Int)]) (u34_0_0 mr tr vr gr mo to ml tl) (5))) (False)) (False)) (False)) (False)) (False)) (Kret (PV.tup [PV.tf true, PV.int .i64 (0 : Int)]) (u34_0_0 mr tr vr gr mo to ml tl) (3))
theorem t34_0 (test : TT) (Kst : KS) (Kret : KR) (ar nr mr : Nat) (tr vr gr : NI) (ao no mo : Nat) (to : Nat → Bool) (al nl ml : Nat) (tl : NI) (x0 : Int) : run test Try.env true (xC test) true 400 ⟨43, hd Try.f43 0, zipT [1, 16, 17, 18] [PV.loose (PA.mk (2) (1) al (0)) nl,
 PV.loose (PA.mk (0) (3) ar (0)) nr, PV.int .i64 (↑nr : Int),
 PV.int .i64 x0], [[], [(0, (false, .cols mr [.int .i64 tr, .int .i64 vr, .int .i64 gr])), (1, (false, .cols mo [.bool to])), (2, (false, .cols ml [.int .i64 tl]))]], 3⟩ (proj 3 [1, 16, 17, 18] Kst Kret) =
  T34_0 test Kst Kret ar nr mr tr vr gr ao no mo to al nl ml tl x0 := by kernel_rfl
noncomputable abbrev J34 (ar nr mr : Nat) (tr : NI) (vr : NI) (gr : NI) (ao no mo : Nat) (to : Nat → Bool) (al nl ml : Nat) (tl : NI) : Rt34 → Heap := fun r => [newL (3 + 1) ((N34 ar nr mr tr vr gr ao no mo to al nl ml tl) r) ++ [(0, (false, .cols mr [.int .i64 tr, .int .i64 vr, .int .i64 gr])), (1, (false, .cols mo [.bool to])), (2, (false, .cols ml [.int .i64 tl]))]]
attribute [local irreducible] Int.subNatNat in
theorem be34 (ar nr mr : Nat) (tr vr gr : NI) (ao no mo : Nat) (to : Nat → Bool) (al nl ml : Nat) (tl : NI) (Kst : KS) (Kret : KR) (x : St34 ⊕ Rt34) (hS : HS 3 400 ((I34 ar nr mr tr vr gr ao no mo to al nl ml tl)) Kst x) (hR : HR 3 400 ((V34 ar nr mr tr vr gr ao no mo to al nl ml tl)) (J34 ar nr mr tr vr gr ao no mo to al nl ml tl) Kret x) (h : p34 ar nr mr tr vr gr ao no mo to al nl ml tl = some x) : Te34 cond Kst Kret ar nr mr tr vr gr ao no mo to al nl ml tl := by
  unfold Te34
  unfold p34 at h
  exact bif_split h (fun c0 h => bif_split h (fun c1 h => ret_at hR _ h (fun n => n) rfl rfl rfl (rn_tup ⟨(rn_bool_tf rfl), (rn_int rfl), trivial⟩) rfl (entl_bor (use_lo rfl) rfl rfl (entl_bor (use_lo rfl) rfl rfl (entl_bor (use_lo rfl) rfl rfl entl_nil)))) (fun c1 h => stop_at hS _ h (fun n => n) rfl rfl rfl ⟨(rn_loose (use_lo rfl) rfl rfl rfl), ⟨(rn_loose (use_lo rfl) rfl rfl rfl), ⟨(rn_int rfl), ⟨(rn_int rfl), trivial⟩⟩⟩⟩ rfl (entl_bor (use_lo rfl) rfl rfl (entl_bor (use_lo rfl) rfl rfl (entl_bor (use_lo rfl) rfl rfl entl_nil))))) (fun c0 h => no_some h)
attribute [local irreducible] Int.subNatNat in
theorem b34_0 (ar nr mr : Nat) (tr vr gr : NI) (ao no mo : Nat) (to : Nat → Bool) (al nl ml : Nat) (tl : NI) (Kst : KS) (Kret : KR) (x : St34 ⊕ Rt34) (hS : HS 3 400 ((I34 ar nr mr tr vr gr ao no mo to al nl ml tl)) Kst x) (hR : HR 3 400 ((V34 ar nr mr tr vr gr ao no mo to al nl ml tl)) (J34 ar nr mr tr vr gr ao no mo to al nl ml tl) Kret x) (x0 : Int) (h : q34 ar nr mr tr vr gr ao no mo to al nl ml tl (.h0 x0) = some x) : T34_0 cond Kst Kret ar nr mr tr vr gr ao no mo to al nl ml tl x0 := by
  unfold T34_0
  rw [q34] at h
  exact bif_split h (fun c0 h => bif_split h (fun c1 h => bif_split h (fun c2 h => cond_yes c2 (cond_yes c2 (bif_split h (fun c3 h => bif_split h (fun c4 h => bif_split h (fun c5 h => stop_at hS _ h (fun n => n) rfl rfl rfl ⟨(rn_loose (use_lo rfl) rfl rfl rfl), ⟨(rn_loose (use_lo rfl) rfl rfl rfl), ⟨(rn_int rfl), ⟨(rn_int rfl), trivial⟩⟩⟩⟩ rfl (entl_bor (use_lo rfl) rfl rfl (entl_bor (use_lo rfl) rfl rfl (entl_bor (use_lo rfl) rfl rfl entl_nil)))) (fun c5 h => no_some h)) (fun c4 h => ret_at hR _ h (fun n => n) rfl rfl rfl (rn_tup ⟨(rn_bool_tf rfl), (rn_int rfl), trivial⟩) rfl (entl_bor (use_lo rfl) rfl rfl (entl_bor (use_lo rfl) rfl rfl (entl_bor (use_lo rfl) rfl rfl entl_nil))))) (fun c3 h => no_some h)))) (fun c2 h => no_some h)) (fun c1 h => no_some h)) (fun c0 h => ret_at hR _ h (fun n => n) rfl rfl rfl (rn_tup ⟨(rn_bool_tf rfl), (rn_int rfl), trivial⟩) rfl (entl_bor (use_lo rfl) rfl rfl (entl_bor (use_lo rfl) rfl rfl (entl_bor (use_lo rfl) rfl rfl entl_nil))))
theorem a34 (ar nr mr : Nat) (tr vr gr : NI) (ao no mo : Nat) (to : Nat → Bool) (al nl ml : Nat) (tl : NI) {r : Rt34} (h : Goes ((q34 ar nr mr tr vr gr ao no mo to al nl ml tl)) ((p34 ar nr mr tr vr gr ao no mo to al nl ml tl)) r) : CallR Try.prog 43 [.agg [.loose ⟨0, 3, ar, 0⟩ nr, .loose ⟨1, 1, ao, 0⟩ no], .loose ⟨2, 1, al, 0⟩ nl] [[(0, (false, .cols mr [.int .i64 tr, .int .i64 vr, .int .i64 gr])), (1, (false, .cols mo [.bool to])), (2, (false, .cols ml [.int .i64 tl]))]] 3 ((V34 ar nr mr tr vr gr ao no mo to al nl ml tl) r) ((J34 ar nr mr tr vr gr ao no mo to al nl ml tl) r) 400 ∧ ∃ F, Try.prog.funcs[43]? = some F ∧ F.body.isSome = true ∧ (F.name == "runtime.NumGoroutine") = false := by
  refine dec_calls (f := 43) (lo := 3) (hi := 400) (H := [[(0, (false, .cols mr [.int .i64 tr, .int .i64 vr, .int .i64 gr])), (1, (false, .cols mo [.bool to])), (2, (false, .cols ml [.int .i64 tl]))]]) (args := [.agg [.loose ⟨0, 3, ar, 0⟩ nr, .loose ⟨1, 1, ao, 0⟩ no], .loose ⟨2, 1, al, 0⟩ nl]) Try.envOk Try.mixed xC_ok ((I34 ar nr mr tr vr gr ao no mo to al nl ml tl)) ((V34 ar nr mr tr vr gr ao no mo to al nl ml tl)) (J34 ar nr mr tr vr gr ao no mo to al nl ml tl) (fn := mkFn Try.f43) (ts := [1, 16, 17, 18]) (n := 400) rfl (by decide) (by simp) (names_of rfl) ?_ ?_ ?_ h
  · intro s; cases s <;> exact ⟨hd_ok _ _, by simp [I34], names_of rfl, Nat.le_of_ble_eq_true rfl⟩
  · intro Kst Kret x hS hR h
    exact Holds.eq (te34 cond Kst Kret ar nr mr tr vr gr ao no mo to al nl ml tl) (be34 ar nr mr tr vr gr ao no mo to al nl ml tl Kst Kret x hS hR h)
  · intro Kst Kret x hS hR s h
    cases s with
    | h0 x0 => exact Holds.eq (t34_0 cond Kst Kret ar nr mr tr vr gr ao no mo to al nl ml tl x0) (b34_0 ar nr mr tr vr gr ao no mo to al nl ml tl Kst Kret x hS hR x0 h)
noncomputable abbrev w34 {α : Type} (g : Nat → Nat → Nat → (Nat → Int) → (Nat → Int) → (Nat → Int) → Nat → Nat → Nat → (Nat → Bool) → Nat → Nat → Nat → (Nat → Int) → α) (x : ((Nat × Nat × Nat × (Nat → Int) × (Nat → Int) × (Nat → Int) × Unit) × (Nat × Nat × Nat × (Nat → Bool) × Unit) × Unit) × (Nat × Nat × Nat × (Nat → Int) × Unit) × Unit) : α := g x.1.1.1 x.1.1.2.1 x.1.1.2.2.1 x.1.1.2.2.2.1 x.1.1.2.2.2.2.1 x.1.1.2.2.2.2.2.1 x.1.2.1.1 x.1.2.1.2.1 x.1.2.1.2.2.1 x.1.2.1.2.2.2.1 x.2.1.1 x.2.1.2.1 x.2.1.2.2.1 x.2.1.2.2.2.1
noncomputable def k34  : Con := ⟨43, [.agg [.list [.int .i64, .int .i64, .int .i64], .list [.bool]], .one (.list [.int .i64])], w34 (fun ar nr mr tr vr gr ao no mo to al nl ml tl => decide (ar + nr ≤ mr ∧ nr ≤ 1000000 ∧ ao + no ≤ mo ∧ no ≤ 1000000 ∧ al + nl ≤ ml ∧ nl ≤ 1000000)), w34 (fun ar nr mr tr vr gr ao no mo to al nl ml tl => (V34 ar nr mr tr vr gr ao no mo to al nl ml tl) (S.erS nr (fun j => tr (j + ar)) (fun j => vr (j + ar)) (fun j => gr (j + ar)) no nl (fun j => tl (j + al)))), w34 (fun ar nr mr tr vr gr ao no mo to al nl ml tl => (N34 ar nr mr tr vr gr ao no mo to al nl ml tl) (S.erS nr (fun j => tr (j + ar)) (fun j => vr (j + ar)) (fun j => gr (j + ar)) no nl (fun j => tl (j + al)))), fun _ _ => .dead⟩
theorem s34' (ar nr mr : Nat) (tr vr gr : Nat → Int) (ao no mo : Nat) (to : Nat → Bool) (al nl ml : Nat) (tl : Nat → Int) (hp : ar + nr ≤ mr ∧ nr ≤ 1000000 ∧ ao + no ≤ mo ∧ no ≤ 1000000 ∧ al + nl ≤ ml ∧ nl ≤ 1000000) : ∀ k i : Nat, i + k = nr → Comes (q34 ar nr mr tr vr gr ao no mo to al nl ml tl) (.h0 (i : Int)) ((S.erB (fun j => tr (j + ar)) (fun j => vr (j + ar)) nl (fun j => tl (j + al)) i k, 0)) := by
  obtain ⟨hp1, hp2, hp3, hp4, hp5, hp6⟩ := hp
  intro k
  induction k with
  | zero =>
    intro i hi
    apply Comes.of
    show Goes _ _ _
    (first | rw [q34] | unfold q34)
    repeat' (first | with_reducible refine goes_if (fun h => ?_) (fun h => ?_) <;> (try simp only [SH] at h) | exact goes_none.mpr (by omega))
    all_goals first | (exfalso; omega) | rfl | (refine Eq.mpr (congrArg (Comes _ _) ?_) True; simp only [S.erB]; (repeat' split) <;> first | rfl | omega | (exfalso; omega) | (exfalso; simp_all; done) | (exfalso; simp_all; omega) | simp_all) | (refine goes_inr.mpr ?_; simp only [S.erB]; (repeat' split) <;> first | rfl | omega | (exfalso; omega) | (exfalso; simp_all; done) | (exfalso; simp_all; omega) | simp_all)
  | succ k ih =>
    intro i hi
    have ih := ih (i + 1) (by omega)
    apply Comes.of
    show Goes _ _ _
    (first | rw [q34] | unfold q34)
    repeat' (first | with_reducible refine goes_if (fun h => ?_) (fun h => ?_) <;> (try simp only [SH] at h) | exact goes_none.mpr (by omega))
    all_goals first | (exfalso; omega) | rfl | (refine Eq.mpr (congrArg (Comes _ _) ?_) ih; simp only [S.erB]; (repeat' split) <;> first | rfl | omega | (exfalso; omega) | (exfalso; simp_all; done) | (exfalso; simp_all; omega) | simp_all) | (refine goes_inr.mpr ?_; simp only [S.erB]; (repeat' split) <;> first | rfl | omega | (exfalso; omega) | (exfalso; simp_all; done) | (exfalso; simp_all; omega) | simp_all)
theorem s34 (ar nr mr : Nat) (tr vr gr : Nat → Int) (ao no mo : Nat) (to : Nat → Bool) (al nl ml : Nat) (tl : Nat → Int) (hp : ar + nr ≤ mr ∧ nr ≤ 1000000 ∧ ao + no ≤ mo ∧ no ≤ 1000000 ∧ al + nl ≤ ml ∧ nl ≤ 1000000) : Goes ((q34 ar nr mr tr vr gr ao no mo to al nl ml tl)) ((p34 ar nr mr tr vr gr ao no mo to al nl ml tl)) (S.erS nr (fun j => tr (j + ar)) (fun j => vr (j + ar)) (fun j => gr (j + ar)) no nl (fun j => tl (j + al))) := by
  unfold S.erS
  by_cases hv : S.histE nr (fun j => tr (j + ar)) (fun j => vr (j + ar)) (fun j => gr (j + ar)) no nl (fun j => tl (j + al)) = 0
  · have hm := s34' ar nr mr tr vr gr ao no mo to al nl ml tl hp nr 0 (by omega)
    obtain ⟨hp1, hp2, hp3, hp4, hp5, hp6⟩ := hp
    rw [if_pos hv]
    show Goes _ _ _
    unfold p34
    repeat' (first | with_reducible refine goes_if (fun h => ?_) (fun h => ?_) <;> (try simp only [SH] at h) | exact goes_none.mpr (by omega))
    all_goals first | (exfalso; omega) | (exfalso; exact absurd hv (by assumption)) | exact hm
  · obtain ⟨hp1, hp2, hp3, hp4, hp5, hp6⟩ := hp
    rw [if_neg hv]
    show Goes _ _ _
    unfold p34
    repeat' (first | with_reducible refine goes_if (fun h => ?_) (fun h => ?_) <;> (try simp only [SH] at h) | exact goes_none.mpr (by omega))
    all_goals first | (exfalso; omega) | (exfalso; exact hv (by assumption)) | rfl
theorem k34_ok  : k34.ok Try.prog := by
  intro x hx
  obtain ⟨⟨⟨ar, nr, mr, tr, vr, gr, _⟩, ⟨ao, no, mo, to, _⟩, _⟩, ⟨al, nl, ml, tl, _⟩, _⟩ := x
  obtain ⟨h1, h2⟩ := a34 ar nr mr tr vr gr ao no mo to al nl ml tl (s34 ar nr mr tr vr gr ao no mo to al nl ml tl (of_dec hx rfl))
  exact ⟨⟨400, (by decide : 3 + 1 + 0 ≤ 400), h1⟩, h2⟩
inductive St24 where
  | h0 (x0 : Int) (x1 : List (Int × Int × Int)) (x2 : List Bool)
abbrev Rt24  := Int × List (Int × Int × Int) × List Bool
noncomputable def V24 (ar nr mr : Nat) (tr vr gr : NI) (ao no mo : Nat) (to : Nat → Bool) (al nl ml : Nat) (tl : NI) (r : Rt24) : PV := PV.tup [PV.agg [PV.own (4) (3) (List.length r.2.1), PV.own (5) (1) (List.length r.2.2)], PV.int .i64 r.1]
noncomputable def N24 (ar nr mr : Nat) (tr vr gr : NI) (ao no mo : Nat) (to : Nat → Bool) (al nl ml : Nat) (tl : NI) (r : Rt24) : List Blk := [Blk.cols (List.length r.2.1) [Col.int .i64 fun j => (S.at' r.2.1 j).1, Col.int .i64 fun j => (S.at' r.2.1 j).2.1, Col.int .i64 fun j => (S.at' r.2.1 j).2.2], Blk.cols (List.length r.2.2) [Col.bool fun j => S.at' r.2.2 j]]
noncomputable def I24 (ar nr mr : Nat) (tr vr gr : NI) (ao no mo : Nat) (to : Nat → Bool) (al nl ml : Nat) (tl : NI) : St24 → Hd
  | .h0 x0 x1 x2 => ⟨hd Try.f50 0, [PV.ptr (PA.mk (3) (0) (0) (0)),
 PV.ptr (PA.mk (4) (0) (0) (0)),
 PV.loose (PA.mk (2) (1) al (0)) nl, PV.int .i64 (↑nl : Int),
 PV.int .i64 x0], [[(3, (true, Blk.cells [PV.nils, PV.nils])), (4, (true, Blk.cells
 [PV.own (5) (3) (List.length x1), PV.own (6) (1) (List.length x2)])), (5, (true, Blk.cols (List.length x1)
 [Col.int .i64 fun j => (S.at' x1 j).1,
 Col.int .i64 fun j => (S.at' x1 j).2.1,
 Col.int .i64 fun j => (S.at' x1 j).2.2])), (6, (true, Blk.cols (List.length x2) [Col.bool fun j => S.at' x2 j]))], [(0, (false, .cols mr [.int .i64 tr, .int .i64 vr, .int .i64 gr])), (1, (false, .cols mo [.bool to])), (2, (false, .cols ml [.int .i64 tl]))]], 7⟩
noncomputable def q24 (ar nr mr : Nat) (tr vr gr : NI) (ao no mo : Nat) (to : Nat → Bool) (al nl ml : Nat) (tl : NI) : St24 → Option (St24 ⊕ Rt24) | .h0 x0 x1 x2 => bif (decide (x0 < (↑nl : Int))) then (bif (decide ((0 : Int) ≤ x0 ∧ x0 < (↑nl : Int))) then (bif (decide (Int.toNat x0 + al < ml)) then (bif (decide (List.length x2 ≤ List.length x2)) then (bif (decide (0 + List.length x1 ≤ List.length x1 ∧ List.length x1 ≤ 1000000 ∧ List.length x2 = List.length x1)) then (bif (lim .i64 (x0 + 1)) then (some (.inl (.h0 (x0 + 1) (x1) (S.mkl (List.length x2) fun j => S.at' (S.mkl (List.length x2) fun j => S.aft ((S.at' x1 j).1) ((S.at' x1 j).2.1) (S.at' x2 j) (tl (Int.toNat x0 + al))) j)))) else (none)) else (none)) else (none)) else (none)) else (none)) else (some (.inr ((0 : Int), x1, x2)))
noncomputable def p24 (ar nr mr : Nat) (tr vr gr : NI) (ao no mo : Nat) (to : Nat → Bool) (al nl ml : Nat) (tl : NI) : Option (St24 ⊕ Rt24) := bif (decide (ar + nr ≤ mr ∧ nr ≤ 1000000 ∧ al + nl ≤ ml ∧ nl ≤ 1000000)) then (bif ((S.histE nr (fun j => tr (j + ar)) (fun j => vr (j + ar)) (fun j => gr (j + ar)) no nl fun j => tl (j + al)) != 0) then (some (.inr (S.histE nr (fun j => tr (j + ar)) (fun j => vr (j + ar)) (fun j => gr (j + ar)) no nl fun j => tl (j + al), [], []))) else (bif (decide (ar + nr ≤ mr ∧ nr ≤ 1000000)) then (bif (decide (ao + no ≤ mo ∧ no ≤ 1000000)) then (some (.inl (.h0 ((0 : Int)) (S.mkl nr fun j => (tr (j + ar), vr (j + ar), gr (j + ar))) (S.mkl no fun j => to (j + ao))))) else (none)) else (none))) else (none)
def Te24 (test : TT) (Kst : KS) (Kret : KR) (ar nr mr : Nat) (tr vr gr : NI) (ao no mo : Nat) (to : Nat → Bool) (al nl ml : Nat) (tl : NI) : Prop := test (decide (ar + nr ≤ mr ∧ nr ≤ 1000000 ∧ al + nl ≤ ml ∧ nl ≤ 1000000)) (test ((S.histE nr (fun j => tr (j + ar)) (fun j => vr (j + ar)) (fun j => gr (j + ar)) no nl fun j => tl (j + al)) != 0) (Kret (PV.tup [PV.agg [PV.nils, PV.nils], PV.int .i64 (S.histE nr (fun j => tr (j + ar)) (fun j => vr (j + ar)) (fun j => gr (j + ar)) no nl fun j => tl (j + al))]) ([[(2, false, Blk.cols ml [Col.int .i64 tl]), (1, false, Blk.cols mo [Col.bool to]), (0, false, Blk.cols mr [Col.int .i64 tr, Col.int .i64 vr, Col.int .i64 gr])]]) (6)) (test (decide (ar + nr ≤ mr ∧ nr ≤ 1000000)) (test (decide (ao + no ≤ mo ∧ no ≤ 1000000)) (Kst (hd Try.f50 0) ([PV.ptr (PA.mk (4) (0) (0) (0)), PV.ptr (PA.mk (12) (0) (0) (0)), PV.loose (PA.mk (2) (1) al (0)) nl, PV.int .i64 (↑nl : Int), PV.int .i64 (0 : Int)]) ([[(2, false, Blk.cols ml [Col.int .i64 tl]), (1, false, Blk.cols mo [Col.bool to]), (0, false, Blk.cols mr [Col.int .i64 tr, Col.int .i64 vr, Col.int .i64 gr]), (12, true, Blk.cells [PV.own (9) (3) nr, PV.own (11) (1) no]), (4, true, Blk.cells [PV.nils, PV.nils]), (11, true, Blk.cols no [Col.bool fun j => to (j + ao)]), (9, true, Blk.cols nr [Col.int .i64 fun j => tr (j + ar), Col.int .i64 fun j => vr (j + ar), Col.int .i64 fun j => gr (j + ar)])]]) (13)) (False)) (False))) (False)
theorem te24 (test : TT) (Kst : KS) (Kret : KR) (ar nr mr : Nat) (tr vr gr : NI) (ao no mo : Nat) (to : Nat → Bool) (al nl ml : Nat) (tl : NI) : run test Try.env true (xC test) true 400 ⟨50, [.cd (mkFn Try.f50).body], argT 0 [.agg [.loose ⟨0, 3, ar, 0⟩ nr, .loose ⟨1, 1, ao, 0⟩ no], .loose ⟨2, 1, al, 0⟩ nl], [[], [(0, (false, .cols mr [.int .i64 tr, .int .i64 vr, .int .i64 gr])), (1, (false, .cols mo [.bool to])), (2, (false, .cols ml [.int .i64 tl]))]], 3⟩ (proj 3 [4, 7, 19, 20, 21] Kst Kret) =
  Te24 test Kst Kret ar nr mr tr vr gr ao no mo to al nl ml tl := by kernel_rfl
def T24_0 (test : TT) (Kst : KS) (Kret : KR) (ar nr mr : Nat) (tr vr gr : NI) (ao no mo : Nat) (to : Nat → Bool) (al nl ml : Nat) (tl : NI) (x0 : Int) (x1 : List (Int × Int × Int)) (x2 : List Bool) : Prop := test (decide (x0 < (↑nl : Int))) (test (decide ((0 : Int) ≤ x0 ∧ x0 < (↑nl : Int))) (test (decide (Int.toNat x0 + al < ml)) (test (decide (List.length x2 ≤ List.length x2)) (test (decide (0 + List.length x1 ≤ List.length x1 ∧ List.length x1 ≤ 1000000 ∧ List.length x2 = List.length x1)) (test (lim .i64 (x0 + 1)) (Kst (hd Try.f50 0) ([PV.ptr (PA.mk (3) (0) (0) (0)), PV.ptr (PA.mk (4) (0) (0) (0)), PV.loose (PA.mk (2) (1) al (0)) nl, PV.int .i64 (↑nl : Int), PV.int .i64 (x0 + 1)]) ([[(2, false, Blk.cols ml [Col.int .i64 tl]), (1, false, Blk.cols mo [Col.bool to]), (0, false, Blk.cols mr [Col.int .i64 tr, Col.int .i64 vr, Col.int .i64 gr]), (4, true, Blk.cells [PV.own (5) (3) (List.length x1), PV.own (6) (1) (List.length x2)]), (3, true, Blk.cells [PV.nils, PV.nils]), (6, true, Blk.cols (List.length (S.mkl (List.length x2) fun j => S.aft (S.at' x1 j).1 (S.at' x1 j).2.1 (S.at' x2 j) (tl (Int.toNat x0 + al)))) [Col.bool fun j => S.at' (S.mkl (List.length x2) fun j => S.aft (S.at' x1 j).1 (S.at' x1 j).2.1 (S.at' x2 j) (tl (Int.toNat x0 + al))) j]), (5, true, Blk.cols (List.length x1) [Col.int .i64 fun j => (S.at' x1 j).1, Col.int .i64 fun j => (S.at' x1 j).2.1, Col.int .i64 fun j => (S.at' x1 j).2.2])]]) (8)) (False)) (False)) (False)) (False)) (False)) (Kret (PV.tup [PV.agg [PV.own (5) (3) (List.length x1), PV.own (6) (1) (List.length x2)], PV.int .i64 (0 : Int)]) ([[(2, false, Blk.cols ml [Col.int .i64 tl]), (1, false, Blk.cols mo [Col.bool to]), (0, false, Blk.cols mr [Col.int .i64 tr, Col.int .i64 vr, Col.int .i64 gr]), (6, true, Blk.cols (List.length x2) [Col.bool fun j => S.at' x2 j]), (5, true, Blk.cols (List.length x1) [Col.int .i64 fun j => (S.at' x1 j).1, Col.int .i64 fun j => (S.at' x1 j).2.1, Col.int .i64 fun j => (S.at' x1 j).2.2])]]) (7))
theorem t24_0 (test : TT) (Kst : KS) (Kret : KR) (ar nr mr : Nat) (tr vr gr : NI) (ao no mo : Nat) (to : Nat → Bool) (al nl ml : Nat) (tl : NI) (x0 : Int) (x1 : List (Int × Int × Int)) (x2 : List Bool) : run test Try.env true (xC test) true 400 ⟨50, hd Try.f50 0, zipT [4, 7, 19, 20, 21] [PV.ptr (PA.mk (3) (0) (0) (0)),
 PV.ptr (PA.mk (4) (0) (0) (0)),
 PV.loose (PA.mk (2) (1) al (0)) nl, PV.int .i64 (↑nl : Int),
 PV.int .i64 x0], [[(3, (true, Blk.cells [PV.nils, PV.nils])), (4, (true, Blk.cells
 [PV.own (5) (3) (List.length x1), PV.own (6) (1) (List.length x2)])), (5, (true, Blk.cols (List.length x1)
 [Col.int .i64 fun j => (S.at' x1 j).1,
 Col.int .i64 fun j => (S.at' x1 j).2.1,
 Col.int .i64 fun j => (S.at' x1 j).2.2])), (6, (true, Blk.cols (List.length x2) [Col.bool fun j => S.at' x2 j]))], [(0, (false, .cols mr [.int .i64 tr, .int .i64 vr, .int .i64 gr])), (1, (false, .cols mo [.bool to])), (2, (false, .cols ml [.int .i64 tl]))]], 7⟩ (proj 3 [4, 7, 19, 20, 21] Kst Kret) =
  T24_0 test Kst Kret ar nr mr tr vr gr ao no mo to al nl ml tl x0 x1 x2 := by kernel_rfl
noncomputable abbrev J24 (ar nr mr : Nat) (tr : NI) (vr : NI) (gr : NI) (ao no mo : Nat) (to : Nat → Bool) (al nl ml : Nat) (tl : NI) : Rt24 → Heap := fun r => [newL (3 + 1) ((N24 ar nr mr tr vr gr ao no mo to al nl ml tl) r) ++ [(0, (false, .cols mr [.int .i64 tr, .int .i64 vr, .int .i64 gr])), (1, (false, .cols mo [.bool to])), (2, (false, .cols ml [.int .i64 tl]))]]
attribute [local irreducible] Int.subNatNat in
theorem be24 (ar nr mr : Nat) (tr vr gr : NI) (ao no mo : Nat) (to : Nat → Bool) (al nl ml : Nat) (tl : NI) (Kst : KS) (Kret : KR) (x : St24 ⊕ Rt24) (hS : HS 3 400 ((I24 ar nr mr tr vr gr ao no mo to al nl ml tl)) Kst x) (hR : HR 3 400 ((V24 ar nr mr tr vr gr ao no mo to al nl ml tl)) (J24 ar nr mr tr vr gr ao no mo to al nl ml tl) Kret x) (h : p24 ar nr mr tr vr gr ao no mo to al nl ml tl = some x) : Te24 cond Kst Kret ar nr mr tr vr gr ao no mo to al nl ml tl := by
  unfold Te24
  unfold p24 at h
  exact bif_split h (fun c0 h => bif_split h (fun c1 h => ret_at hR _ h (fun n => bif Nat.beq n 4 then 399 else bif Nat.beq n 5 then 398 else n) rfl rfl rfl (rn_tup ⟨(rn_agg ⟨(rn_own_nils rfl), (rn_own_nils rfl), trivial⟩), (rn_int rfl), trivial⟩) rfl (entl_fresh (use_own rfl) (fresh_ok rfl) (entl_fresh (use_own rfl) (fresh_ok rfl) (entl_bor (use_lo rfl) rfl rfl (entl_bor (use_lo rfl) rfl rfl (entl_bor (use_lo rfl) rfl rfl entl_nil)))))) (fun c1 h => bif_split h (fun c2 h => bif_split h (fun c3 h => stop_at hS _ h (fun n => bif Nat.beq n 3 then 4 else bif Nat.beq n 4 then 12 else bif Nat.beq n 5 then 9 else bif Nat.beq n 6 then 11 else n) rfl rfl rfl ⟨(rn_ptr (use_own rfl) rfl rfl), ⟨(rn_ptr (use_own rfl) rfl rfl), ⟨(rn_loose (use_lo rfl) rfl rfl rfl), ⟨(rn_int rfl), ⟨(rn_int rfl), trivial⟩⟩⟩⟩⟩ rfl (entl_b (use_own rfl) rfl (by simp) (rb_cells ⟨rn_nils, rn_nils, trivial⟩) (entl_b (use_own rfl) rfl (by simp) (rb_cells ⟨(rn_own (use_own rfl) rfl mkl_len), (rn_own (use_own rfl) rfl mkl_len), trivial⟩) (entl_new (use_own rfl) rfl (Nat.le_of_eq mkl_len) (rcs_int (fun _ hj => col_mkl (fun (t : Int × Int × Int) => t.1) hj) (rcs_int (fun _ hj => col_mkl (fun (t : Int × Int × Int) => t.2.1) hj) (rcs_int (fun _ hj => col_mkl (fun (t : Int × Int × Int) => t.2.2) hj) rcs_nil))) (entl_new (use_own rfl) rfl (Nat.le_of_eq mkl_len) (rcs_bool (fun _ hj => col_mkl (fun (t : Bool) => t) hj) rcs_nil) (entl_bor (use_lo rfl) rfl rfl (entl_bor (use_lo rfl) rfl rfl (entl_bor (use_lo rfl) rfl rfl entl_nil)))))))) (fun c3 h => no_some h)) (fun c2 h => no_some h))) (fun c0 h => no_some h)
attribute [local irreducible] Int.subNatNat in
theorem b24_0 (ar nr mr : Nat) (tr vr gr : NI) (ao no mo : Nat) (to : Nat → Bool) (al nl ml : Nat) (tl : NI) (Kst : KS) (Kret : KR) (x : St24 ⊕ Rt24) (hS : HS 3 400 ((I24 ar nr mr tr vr gr ao no mo to al nl ml tl)) Kst x) (hR : HR 3 400 ((V24 ar nr mr tr vr gr ao no mo to al nl ml tl)) (J24 ar nr mr tr vr gr ao no mo to al nl ml tl) Kret x) (x0 : Int) (x1 : List (Int × Int × Int)) (x2 : List Bool) (h : q24 ar nr mr tr vr gr ao no mo to al nl ml tl (.h0 x0 x1 x2) = some x) : T24_0 cond Kst Kret ar nr mr tr vr gr ao no mo to al nl ml tl x0 x1 x2 := by
  unfold T24_0
  rw [q24] at h
  exact bif_split h (fun c0 h => bif_split h (fun c1 h => bif_split h (fun c2 h => bif_split h (fun c3 h => bif_split h (fun c4 h => bif_split h (fun c5 h => stop_at hS _ h (fun n => bif Nat.beq n 3 then 3 else bif Nat.beq n 4 then 4 else bif Nat.beq n 5 then 5 else bif Nat.beq n 6 then 6 else n) rfl rfl rfl ⟨(rn_ptr (use_own rfl) rfl rfl), ⟨(rn_ptr (use_own rfl) rfl rfl), ⟨(rn_loose (use_lo rfl) rfl rfl rfl), ⟨(rn_int rfl), ⟨(rn_int rfl), trivial⟩⟩⟩⟩⟩ rfl (entl_b (use_own rfl) rfl (by simp) (rb_cells ⟨rn_nils, rn_nils, trivial⟩) (entl_b (use_own rfl) rfl (by simp) (rb_cells ⟨(rn_own (use_own rfl) rfl rfl), (rn_own (use_own rfl) rfl mkl_len), trivial⟩) (entl_new (use_own rfl) rfl (Nat.le_of_eq rfl) (rcs_int (fun _ _ => rfl) (rcs_int (fun _ _ => rfl) (rcs_int (fun _ _ => rfl) rcs_nil))) (entl_new (use_own rfl) rfl (by first | exact Nat.le_of_eq mkl_len | (simp only [mkl_len, snoc_len]; omega)) (rcs_bool (fun _ hj => col_mkl (fun (t : Bool) => t) hj) rcs_nil) (entl_bor (use_lo rfl) rfl rfl (entl_bor (use_lo rfl) rfl rfl (entl_bor (use_lo rfl) rfl rfl entl_nil)))))))) (fun c5 h => no_some h)) (fun c4 h => no_some h)) (fun c3 h => no_some h)) (fun c2 h => no_some h)) (fun c1 h => no_some h)) (fun c0 h => ret_at hR _ h (fun n => bif Nat.beq n 4 then 5 else bif Nat.beq n 5 then 6 else n) rfl rfl rfl (rn_tup ⟨(rn_agg ⟨(rn_own (use_own rfl) rfl rfl), (rn_own (use_own rfl) rfl rfl), trivial⟩), (rn_int rfl), trivial⟩) rfl (entl_new (use_own rfl) rfl (Nat.le_of_eq rfl) (rcs_int (fun _ _ => rfl) (rcs_int (fun _ _ => rfl) (rcs_int (fun _ _ => rfl) rcs_nil))) (entl_new (use_own rfl) rfl (Nat.le_of_eq rfl) (rcs_bool (fun _ _ => rfl) rcs_nil) (entl_bor (use_lo rfl) rfl rfl (entl_bor (use_lo rfl) rfl rfl (entl_bor (use_lo rfl) rfl rfl entl_nil))))))
theorem a24 (ar nr mr : Nat) (tr vr gr : NI) (ao no mo : Nat) (to : Nat → Bool) (al nl ml : Nat) (tl : NI) {r : Rt24} (h : Goes ((q24 ar nr mr tr vr gr ao no mo to al nl ml tl)) ((p24 ar nr mr tr vr gr ao no mo to al nl ml tl)) r) : CallR Try.prog 50 [.agg [.loose ⟨0, 3, ar, 0⟩ nr, .loose ⟨1, 1, ao, 0⟩ no], .loose ⟨2, 1, al, 0⟩ nl] [[(0, (false, .cols mr [.int .i64 tr, .int .i64 vr, .int .i64 gr])), (1, (false, .cols mo [.bool to])), (2, (false, .cols ml [.int .i64 tl]))]] 3 ((V24 ar nr mr tr vr gr ao no mo to al nl ml tl) r) ((J24 ar nr mr tr vr gr ao no mo to al nl ml tl) r) 400 ∧ ∃ F, Try.prog.funcs[50]? = some F ∧ F.body.isSome = true ∧ (F.name == "runtime.NumGoroutine") = false := by
  refine dec_calls (f := 50) (lo := 3) (hi := 400) (H := [[(0, (false, .cols mr [.int .i64 tr, .int .i64 vr, .int .i64 gr])), (1, (false, .cols mo [.bool to])), (2, (false, .cols ml [.int .i64 tl]))]]) (args := [.agg [.loose ⟨0, 3, ar, 0⟩ nr, .loose ⟨1, 1, ao, 0⟩ no], .loose ⟨2, 1, al, 0⟩ nl]) Try.envOk Try.mixed xC_ok ((I24 ar nr mr tr vr gr ao no mo to al nl ml tl)) ((V24 ar nr mr tr vr gr ao no mo to al nl ml tl)) (J24 ar nr mr tr vr gr ao no mo to al nl ml tl) (fn := mkFn Try.f50) (ts := [4, 7, 19, 20, 21]) (n := 400) rfl (by decide) (by simp) (names_of rfl) ?_ ?_ ?_ h
  · intro s; cases s <;> exact ⟨hd_ok _ _, by simp [I24], names_of rfl, Nat.le_of_ble_eq_true rfl⟩
  · intro Kst Kret x hS hR h
    exact Holds.eq (te24 cond Kst Kret ar nr mr tr vr gr ao no mo to al nl ml tl) (be24 ar nr mr tr vr gr ao no mo to al nl ml tl Kst Kret x hS hR h)
  · intro Kst Kret x hS hR s h
    cases s with
    | h0 x0 x1 x2 => exact Holds.eq (t24_0 cond Kst Kret ar nr mr tr vr gr ao no mo to al nl ml tl x0 x1 x2) (b24_0 ar nr mr tr vr gr ao no mo to al nl ml tl Kst Kret x hS hR x0 x1 x2 h)
noncomputable abbrev w24 {α : Type} (g : Nat → Nat → Nat → (Nat → Int) → (Nat → Int) → (Nat → Int) → Nat → Nat → Nat → (Nat → Bool) → Nat → Nat → Nat → (Nat → Int) → α) (x : ((Nat × Nat × Nat × (Nat → Int) × (Nat → Int) × (Nat → Int) × Unit) × (Nat × Nat × Nat × (Nat → Bool) × Unit) × Unit) × (Nat × Nat × Nat × (Nat → Int) × Unit) × Unit) : α := g x.1.1.1 x.1.1.2.1 x.1.1.2.2.1 x.1.1.2.2.2.1 x.1.1.2.2.2.2.1 x.1.1.2.2.2.2.2.1 x.1.2.1.1 x.1.2.1.2.1 x.1.2.1.2.2.1 x.1.2.1.2.2.2.1 x.2.1.1 x.2.1.2.1 x.2.1.2.2.1 x.2.1.2.2.2.1
noncomputable def k24  : Con := ⟨50, [.agg [.list [.int .i64, .int .i64, .int .i64], .list [.bool]], .one (.list [.int .i64])], w24 (fun ar nr mr tr vr gr ao no mo to al nl ml tl => decide (ar + nr ≤ mr ∧ nr ≤ 1000000 ∧ ao + no ≤ mo ∧ no ≤ 1000000 ∧ al + nl ≤ ml ∧ nl ≤ 1000000)), w24 (fun ar nr mr tr vr gr ao no mo to al nl ml tl => (V24 ar nr mr tr vr gr ao no mo to al nl ml tl) (S.histS nr (fun j => tr (j + ar)) (fun j => vr (j + ar)) (fun j => gr (j + ar)) no (fun j => to (j + ao)) nl (fun j => tl (j + al)))), w24 (fun ar nr mr tr vr gr ao no mo to al nl ml tl => (N24 ar nr mr tr vr gr ao no mo to al nl ml tl) (S.histS nr (fun j => tr (j + ar)) (fun j => vr (j + ar)) (fun j => gr (j + ar)) no (fun j => to (j + ao)) nl (fun j => tl (j + al)))), fun _ _ => .dead⟩
theorem s24' (ar nr mr : Nat) (tr vr gr : Nat → Int) (ao no mo : Nat) (to : Nat → Bool) (al nl ml : Nat) (tl : Nat → Int) (hp : ar + nr ≤ mr ∧ nr ≤ 1000000 ∧ ao + no ≤ mo ∧ no ≤ 1000000 ∧ al + nl ≤ ml ∧ nl ≤ 1000000) (hv : S.histE nr (fun j => tr (j + ar)) (fun j => vr (j + ar)) (fun j => gr (j + ar)) no nl (fun j => tl (j + al)) = 0) : ∀ (k i : Nat) (lr : List (Int × Int × Int)) (lo : List Bool), i + k = nl → Holds (lr = S.mkl nr fun j => (tr (j + ar), vr (j + ar), gr (j + ar))) → Holds (lo = S.mkl no fun j => S.aftN (tr (j + ar)) (vr (j + ar)) (fun j => tl (j + al)) (to (j + ao)) i) → Comes (q24 ar nr mr tr vr gr ao no mo to al nl ml tl) (.h0 (i : Int) lr lo) ((0, S.mkl nr fun j => (tr (j + ar), vr (j + ar), gr (j + ar)), S.mkl no fun j => S.aftN (tr (j + ar)) (vr (j + ar)) (fun j => tl (j + al)) (to (j + ao)) nl)) := by
  obtain ⟨hp1, hp2, hp3, hp4, hp5, hp6⟩ := hp
  obtain ⟨hm, hl1, hl2⟩ := hist_ok hv
  obtain ⟨v1, v2, v3, v4⟩ := mag_ok hm
  intro k
  induction k with
  | zero =>
    intro i lr lo hi elr elo
    have hlr : lr.length = nr := by rw [elr.get]; exact mkl_len
    have hlo : lo.length = no := by rw [elo.get]; exact mkl_len
    apply Comes.of
    show Goes _ _ _
    (first | rw [q24] | unfold q24)
    repeat' (first | with_reducible refine goes_if (fun h => ?_) (fun h => ?_) <;> (try simp only [SH] at h) | exact goes_none.mpr (by omega))
    all_goals first | (exfalso; omega) | (obtain rfl : nl = i := (by omega); rw [elr.get]; rw [elo.get]; rfl)
  | succ k ih =>
    intro i lr lo hi elr elo
    have hlr : lr.length = nr := by rw [elr.get]; exact mkl_len
    have hlo : lo.length = no := by rw [elo.get]; exact mkl_len
    apply Comes.of
    show Goes _ _ _
    (first | rw [q24] | unfold q24)
    repeat' (first | with_reducible refine goes_if (fun h => ?_) (fun h => ?_) <;> (try simp only [SH] at h) | exact goes_none.mpr (by omega))
    all_goals first
      | (exfalso; omega)
      | (refine ih (i + 1) _ _ (by omega) ⟨elr.get⟩ ⟨?_⟩; rw [hlo, elr.get, elo.get]; refine mkl_congr fun j hj => ?_; rw [at_mkl hj, at_mkl hj, at_mkl (by omega)]; rfl)
      | (refine ih (i + 1) _ _ (by omega) ⟨?_⟩ ⟨?_⟩ <;> (skip))
theorem s24 (ar nr mr : Nat) (tr vr gr : Nat → Int) (ao no mo : Nat) (to : Nat → Bool) (al nl ml : Nat) (tl : Nat → Int) (hp : ar + nr ≤ mr ∧ nr ≤ 1000000 ∧ ao + no ≤ mo ∧ no ≤ 1000000 ∧ al + nl ≤ ml ∧ nl ≤ 1000000) : Goes ((q24 ar nr mr tr vr gr ao no mo to al nl ml tl)) ((p24 ar nr mr tr vr gr ao no mo to al nl ml tl)) (S.histS nr (fun j => tr (j + ar)) (fun j => vr (j + ar)) (fun j => gr (j + ar)) no (fun j => to (j + ao)) nl (fun j => tl (j + al))) := by
  unfold S.histS
  by_cases hv : S.histE nr (fun j => tr (j + ar)) (fun j => vr (j + ar)) (fun j => gr (j + ar)) no nl (fun j => tl (j + al)) = 0
  · have hm := s24' ar nr mr tr vr gr ao no mo to al nl ml tl hp hv nl 0 (S.mkl nr fun j => (tr (j + ar), vr (j + ar), gr (j + ar))) (S.mkl no fun j => to (j + ao)) (by omega) ⟨rfl⟩ ⟨rfl⟩
    obtain ⟨hp1, hp2, hp3, hp4, hp5, hp6⟩ := hp
    rw [if_pos hv]
    show Goes _ _ _
    unfold p24
    repeat' (first | with_reducible refine goes_if (fun h => ?_) (fun h => ?_) <;> (try simp only [SH] at h) | exact goes_none.mpr (by omega))
    all_goals first | (exfalso; omega) | (exfalso; exact absurd hv (by assumption)) | exact hm
  · obtain ⟨hp1, hp2, hp3, hp4, hp5, hp6⟩ := hp
    rw [if_neg hv]
    show Goes _ _ _
    unfold p24
    repeat' (first | with_reducible refine goes_if (fun h => ?_) (fun h => ?_) <;> (try simp only [SH] at h) | exact goes_none.mpr (by omega))
    all_goals first | (exfalso; omega) | (exfalso; exact hv (by assumption)) | rfl
theorem k24_ok  : k24.ok Try.prog := by
  intro x hx
  obtain ⟨⟨⟨ar, nr, mr, tr, vr, gr, _⟩, ⟨ao, no, mo, to, _⟩, _⟩, ⟨al, nl, ml, tl, _⟩, _⟩ := x
  obtain ⟨h1, h2⟩ := a24 ar nr mr tr vr gr ao no mo to al nl ml tl (s24 ar nr mr tr vr gr ao no mo to al nl ml tl (of_dec hx rfl))
  exact ⟨⟨400, (by decide : 3 + 1 + 2 ≤ 400), h1⟩, h2⟩
namespace S
def botE (m c : Int) : Int := if m = 0 then c else m
def suiS (e : Int) (x : Bool) : Bool × Int := if e = 0 then (x, 0) else (false, e)
def ahdB (n : Nat) (t : Nat → Int) (fl pt x : Int) : Bool := if t (n - 1) < fl then decide (pt ≤ x ∧ x ≤ max fl (maxN t (n - 1))) else decide (x ≤ pt ∧ min fl (minN t (n - 1)) ≤ x)
end S
theorem er_in  {n no nl : Nat} {u d w : Nat → Int} {t : Nat → Int} (h : S.magE n u d w no = 0) (h1 : nl ≤ 1000) (h2 : ∀ j, j < nl → -1099511627776 ≤ t j ∧ t j ≤ 1099511627776) : S.erS n u d w no nl t = (S.erB u d nl t 0 n, 0) := by
  have hh : S.histE n u d w no nl t = 0 := by
    unfold S.histE
    rw [if_pos h, if_neg (by omega)]
    have : ∀ k i, i + k = nl → S.inE t i k = 0 := by
      intro k
      induction k with
      | zero => intro i _; rfl
      | succ k ih => intro i hi; simp only [S.inE]; rw [if_pos (h2 i (by omega))]; exact ih (i + 1) (by omega)
    exact this nl 0 (Nat.zero_add _)
  unfold S.erS
  rw [if_pos hh]
theorem stp_in  {cn : ByteArray} {n : Nat} {t : Nat → Int} {rp fl : Int} (h : S.cyE cn n t rp fl = 0) : (S.stpL n t rp fl).length ≤ 181 ∧ 1 ≤ (S.stpL n t rp fl).length ∧ ∀ j, j < (S.stpL n t rp fl).length → -1099511627776 ≤ S.at' (S.stpL n t rp fl) j ∧ S.at' (S.stpL n t rp fl) j ≤ 1099511627776 := by
  obtain ⟨c1, c2, c3, c4, c5⟩ := cy_ok h
  have hb := mul_bd c1.2 c2.2
  refine ⟨by rw [stp_len]; omega, by rw [stp_len]; omega, fun j hj => ?_⟩
  rw [stp_len] at hj
  unfold S.stpL
  by_cases h1 : j < n * rp.toNat
  · rw [at_snoc_lt (by rw [mkl_len]; exact h1), at_mkl h1]
    exact (c5 (j % n) (Nat.mod_lt _ (by omega))).1
  · have e : j = (S.mkl (n * rp.toNat) fun j => t (j % n)).length := by rw [mkl_len]; omega
    rw [e, at_snoc_eq]; exact c3
theorem minmax  {t : Nat → Int} {fl : Int} : ∀ {i : Nat}, min (min fl (S.minN t i)) (t (i + 1)) = min fl (S.minN t (i + 1)) ∧ max (max fl (S.maxN t i)) (t (i + 1)) = max fl (S.maxN t (i + 1)) := by
  intro i
  simp only [S.minN, S.maxN]
  omega
noncomputable def xT2 (test : Bool → Prop → Prop → Prop) : Ext := consX test [k116, k117, k135, k136, k149, k21, k34, k24, k17, k25]
theorem xT2_ok  : ExtOk Try.prog (xT2 cond) := consX_ok ⟨k116_ok, k117_ok, k135_ok, k136_ok, k149_ok, k21_ok, k34_ok, k24_ok, k17_ok, k25_ok, trivial⟩
inductive St179 where
  | h0 (x0 : Int) (x1 : Int) (x2 : Int)
abbrev Rt179  := Bool
noncomputable def V179 (cn : ByteArray) (aq nq mq : Nat) (tq : NI) (rp fl pt sx : Int) (r : Rt179) : PV := PV.bool r
noncomputable def N179 (cn : ByteArray) (aq nq mq : Nat) (tq : NI) (rp fl pt sx : Int) (r : Rt179) : List Blk := []
noncomputable def I179 (cn : ByteArray) (aq nq mq : Nat) (tq : NI) (rp fl pt sx : Int) : St179 → Hd
  | .h0 x0 x1 x2 => ⟨hd Try.f79 0, [PV.int .i64 pt, PV.int .i64 sx,
 PV.ptr (PA.mk (1) (0) (0) (0)), PV.int .i64 x0,
 PV.int .i64 x1, PV.int .i64 x2], [[(1, (true, Blk.cells
 [PV.str cn, PV.loose (PA.mk (0) (1) aq (0)) nq,
 PV.int .i64 rp, PV.int .i64 fl]))], [(0, (false, .cols mq [.int .i64 tq]))]], 2⟩
noncomputable def q179 (cn : ByteArray) (aq nq mq : Nat) (tq : NI) (rp fl pt sx : Int) : St179 → Option (St179 ⊕ Rt179) | .h0 x0 x1 x2 => bif (decide (x2 < (↑nq : Int))) then (bif (decide ((0 : Int) ≤ x2 ∧ x2 < (↑nq : Int))) then (bif (decide (Int.toNat x2 + aq < mq)) then (bif (lim .i64 (x2 + 1)) then (some (.inl (.h0 (Min.min x0 (tq (Int.toNat x2 + aq))) (Max.max x1 (tq (Int.toNat x2 + aq))) (x2 + 1)))) else (none)) else (none)) else (none)) else (bif (lim .i64 ((↑nq : Int) - 1)) then (bif (decide ((0 : Int) ≤ (↑nq : Int) - 1 ∧ (↑nq : Int) - 1 < (↑nq : Int))) then (bif (decide (Int.toNat ((↑nq : Int) - 1) + aq < mq)) then (bif (decide (fl > tq (Int.toNat ((↑nq : Int) - 1) + aq))) then (bif (decide (sx ≥ pt)) then (bif (decide (sx ≤ x1)) then (some (.inr (true))) else (some (.inr (false)))) else (some (.inr (false)))) else (bif (decide (sx ≤ pt)) then (bif (decide (sx ≥ x0)) then (some (.inr (true))) else (some (.inr (false)))) else (some (.inr (false))))) else (none)) else (none)) else (none))
noncomputable def p179 (cn : ByteArray) (aq nq mq : Nat) (tq : NI) (rp fl pt sx : Int) : Option (St179 ⊕ Rt179) := some (.inl (.h0 (fl) (fl) ((0 : Int))))
def Te179 (test : TT) (Kst : KS) (Kret : KR) (cn : ByteArray) (aq nq mq : Nat) (tq : NI) (rp fl pt sx : Int) : Prop := Kst (hd Try.f79 0) ([PV.int .i64 pt, PV.int .i64 sx, PV.ptr (PA.mk (1) (0) (0) (0)), PV.int .i64 fl, PV.int .i64 fl, PV.int .i64 (0 : Int)]) ([[(0, false, Blk.cols mq [Col.int .i64 tq]), (1, true, Blk.cells [PV.str cn, PV.loose (PA.mk (0) (1) aq (0)) nq, PV.int .i64 rp, PV.int .i64 fl])]]) (2)
theorem te179 (test : TT) (Kst : KS) (Kret : KR) (cn : ByteArray) (aq nq mq : Nat) (tq : NI) (rp fl pt sx : Int) : run test Try.env true noX true 400 ⟨79, [.cd (mkFn Try.f79).body], argT 0 [.agg [.str cn, .loose ⟨0, 1, aq, 0⟩ nq, .int .i64 rp, .int .i64 fl], .int .i64 pt, .int .i64 sx], [[], [(0, (false, .cols mq [.int .i64 tq]))]], 1⟩ (proj 1 [1, 2, 3, 7, 8, 9] Kst Kret) =
  Te179 test Kst Kret cn aq nq mq tq rp fl pt sx := by kernel_rfl
noncomputable abbrev u179_0_0 (mq : Nat) (tq : Nat → Int) := (0, false, Blk.cols mq [Col.int IntKind.i64 tq])
def T179_0 (test : TT) (Kst : KS) (Kret : KR) (cn : ByteArray) (aq nq mq : Nat) (tq : NI) (rp fl pt sx x0 x1 x2 : Int) : Prop := test (decide (x2 < (↑nq : Int))) (test (decide ((0 : Int) ≤ x2 ∧ x2 < (↑nq : Int))) (test (decide (Int.toNat x2 + aq < mq)) (test (decide ((0 : Int) ≤ x2 ∧ x2 < (↑nq : Int))) (test (decide (Int.toNat x2 + aq < mq)) (test (lim .i64 (x2 + 1)) (Kst (hd Try.f79 0) ([PV.int .i64 pt, PV.int .i64 sx, PV.ptr (PA.mk (1) (0) (0) (0)), PV.int .i64 (Min.min x0 (tq (Int.toNat x2 + aq))), PV.int .i64 (Max.max x1 (tq (Int.toNat x2 + aq))), PV.int .i64 (x2 + 1)]) ([[(u179_0_0 mq tq), (1, true, Blk.cells [PV.str cn, PV.loose (PA.mk (0) (1) aq (0)) nq, PV.int .i64 rp, PV.int .i64 fl])]]) (2)) (False)) (False)) (False)) (False)) (False)) (test (lim .i64 ((↑nq : Int) - 1)) (test (decide ((0 : Int) ≤ (↑nq : Int) - 1 ∧ (↑nq : Int) - 1 < (↑nq : Int))) (test (decide (Int.toNat ((↑nq : Int) - 1) + aq < mq)) (test (decide (fl > tq (Int.toNat ((↑nq : Int) - 1) + aq))) (test (decide (sx ≥ pt)) (test (decide (sx ≤ x1)) (Kret (PV.tf true) ([[(u179_0_0 mq tq)]]) (2)) (Kret (PV.tf false) ([[(u179_0_0 mq tq)]]) (2))) (Kret (PV.tf false) ([[(u179_0_0 mq tq)]]) (2))) (test (decide (sx ≤ pt)) (test (decide (sx ≥ x0)) (Kret (PV.tf true) ([[(u179_0_0 mq tq)]]) (2)) (Kret (PV.tf false) ([[(u179_0_0 mq tq)]]) (2))) (Kret (PV.tf false) ([[(u179_0_0 mq tq)]]) (2)))) (False)) (False)) (False))
theorem t179_0 (test : TT) (Kst : KS) (Kret : KR) (cn : ByteArray) (aq nq mq : Nat) (tq : NI) (rp fl pt sx x0 x1 x2 : Int) : run test Try.env true noX true 400 ⟨79, hd Try.f79 0, zipT [1, 2, 3, 7, 8, 9] [PV.int .i64 pt, PV.int .i64 sx,
 PV.ptr (PA.mk (1) (0) (0) (0)), PV.int .i64 x0,
 PV.int .i64 x1, PV.int .i64 x2], [[(1, (true, Blk.cells
 [PV.str cn, PV.loose (PA.mk (0) (1) aq (0)) nq,
 PV.int .i64 rp, PV.int .i64 fl]))], [(0, (false, .cols mq [.int .i64 tq]))]], 2⟩ (proj 1 [1, 2, 3, 7, 8, 9] Kst Kret) =
  T179_0 test Kst Kret cn aq nq mq tq rp fl pt sx x0 x1 x2 := by kernel_rfl
noncomputable abbrev J179 (cn : ByteArray) (aq nq mq : Nat) (tq : NI) (rp : Int) (fl : Int) (pt : Int) (sx : Int) : Rt179 → Heap := fun r => [newL (1 + 1) ((N179 cn aq nq mq tq rp fl pt sx) r) ++ [(0, (false, .cols mq [.int .i64 tq]))]]
attribute [local irreducible] Int.subNatNat in
theorem be179 (cn : ByteArray) (aq nq mq : Nat) (tq : NI) (rp fl pt sx : Int) (Kst : KS) (Kret : KR) (x : St179 ⊕ Rt179) (hS : HS 1 400 ((I179 cn aq nq mq tq rp fl pt sx)) Kst x) (hR : HR 1 400 ((V179 cn aq nq mq tq rp fl pt sx)) (J179 cn aq nq mq tq rp fl pt sx) Kret x) (h : (some (.inl (.h0 (fl) (fl) ((0 : Int)))) : Option (St179 ⊕ Rt179)) = some x) : Te179 cond Kst Kret cn aq nq mq tq rp fl pt sx := by
  unfold Te179
  exact stop_at hS _ h (fun n => bif Nat.beq n 1 then 1 else n) rfl rfl rfl ⟨(rn_int rfl), ⟨(rn_int rfl), ⟨(rn_ptr (use_own rfl) rfl rfl), ⟨(rn_int rfl), ⟨(rn_int rfl), ⟨(rn_int rfl), trivial⟩⟩⟩⟩⟩⟩ rfl (entl_b (use_own rfl) rfl (by simp) (rb_cells ⟨(rn_str rfl), (rn_loose (use_lo rfl) rfl rfl rfl), (rn_int rfl), (rn_int rfl), trivial⟩) (entl_bor (use_lo rfl) rfl rfl entl_nil))
attribute [local irreducible] Int.subNatNat in
theorem b179_0 (cn : ByteArray) (aq nq mq : Nat) (tq : NI) (rp fl pt sx : Int) (Kst : KS) (Kret : KR) (x : St179 ⊕ Rt179) (hS : HS 1 400 ((I179 cn aq nq mq tq rp fl pt sx)) Kst x) (hR : HR 1 400 ((V179 cn aq nq mq tq rp fl pt sx)) (J179 cn aq nq mq tq rp fl pt sx) Kret x) (x0 x1 x2 : Int) (h : q179 cn aq nq mq tq rp fl pt sx (.h0 x0 x1 x2) = some x) : T179_0 cond Kst Kret cn aq nq mq tq rp fl pt sx x0 x1 x2 := by
  unfold T179_0
  rw [q179] at h
  refine bif_split h (fun c0 h => bif_split h (fun c1 h => bif_split h (fun c2 h => cond_yes c1 (cond_yes c2 (bif_split h (fun c3 h => stop_at hS _ h (fun n => bif Nat.beq n 1 then 1 else n) rfl rfl rfl ⟨(rn_int rfl), ⟨(rn_int rfl), ⟨(rn_ptr (use_own rfl) rfl rfl), ⟨(rn_int rfl), ⟨(rn_int rfl), ⟨(rn_int rfl), trivial⟩⟩⟩⟩⟩⟩ rfl (entl_b (use_own rfl) rfl (by simp) (rb_cells ⟨(rn_str rfl), (rn_loose (use_lo rfl) rfl rfl rfl), (rn_int rfl), (rn_int rfl), trivial⟩) (entl_bor (use_lo rfl) rfl rfl entl_nil))) (fun c3 h => ?_)))) (fun c2 h => ?_)) (fun c1 h => ?_)) (fun c0 h => bif_split h (fun c1 h => bif_split h (fun c2 h => bif_split h (fun c3 h => bif_split h (fun c4 h => bif_split h (fun c5 h => bif_split h (fun c6 h => ?_) (fun c6 h => ?_)) (fun c5 h => ?_)) (fun c4 h => bif_split h (fun c5 h => bif_split h (fun c6 h => ?_) (fun c6 h => ?_)) (fun c5 h => ?_))) (fun c3 h => ?_)) (fun c2 h => ?_)) (fun c1 h => ?_))
  all_goals first
    | exact no_some h
    | exact ret_at hR _ h (fun n => n) rfl rfl rfl (rn_bool_tf rfl) rfl (entl_bor (use_lo rfl) rfl rfl entl_nil)
theorem a179 (cn : ByteArray) (aq nq mq : Nat) (tq : NI) (rp fl pt sx : Int) {r : Rt179} (h : Goes ((q179 cn aq nq mq tq rp fl pt sx)) ((p179 cn aq nq mq tq rp fl pt sx)) r) : CallR Try.prog 79 [.agg [.str cn, .loose ⟨0, 1, aq, 0⟩ nq, .int .i64 rp, .int .i64 fl], .int .i64 pt, .int .i64 sx] [[(0, (false, .cols mq [.int .i64 tq]))]] 1 ((V179 cn aq nq mq tq rp fl pt sx) r) ((J179 cn aq nq mq tq rp fl pt sx) r) 400 ∧ ∃ F, Try.prog.funcs[79]? = some F ∧ F.body.isSome = true ∧ (F.name == "runtime.NumGoroutine") = false := by
  refine dec_calls (f := 79) (lo := 1) (hi := 400) (H := [[(0, (false, .cols mq [.int .i64 tq]))]]) (args := [.agg [.str cn, .loose ⟨0, 1, aq, 0⟩ nq, .int .i64 rp, .int .i64 fl], .int .i64 pt, .int .i64 sx]) Try.envOk Try.mixed noX_ok ((I179 cn aq nq mq tq rp fl pt sx)) ((V179 cn aq nq mq tq rp fl pt sx)) (J179 cn aq nq mq tq rp fl pt sx) (fn := mkFn Try.f79) (ts := [1, 2, 3, 7, 8, 9]) (n := 400) rfl (by decide) (by simp) (names_of rfl) ?_ ?_ ?_ h
  · intro s; cases s <;> exact ⟨hd_ok _ _, by simp [I179], names_of rfl, Nat.le_of_ble_eq_true rfl⟩
  · intro Kst Kret x hS hR h
    exact Holds.eq (te179 cond Kst Kret cn aq nq mq tq rp fl pt sx) (be179 cn aq nq mq tq rp fl pt sx Kst Kret x hS hR h)
  · intro Kst Kret x hS hR s h
    cases s with
    | h0 x0 x1 x2 => exact Holds.eq (t179_0 cond Kst Kret cn aq nq mq tq rp fl pt sx x0 x1 x2) (b179_0 cn aq nq mq tq rp fl pt sx Kst Kret x hS hR x0 x1 x2 h)
noncomputable abbrev w179 {α : Type} (g : ByteArray → Nat → Nat → Nat → (Nat → Int) → Int → Int → Int → Int → α) (x : (ByteArray × (Nat × Nat × Nat × (Nat → Int) × Unit) × Int × Int × Unit) × Int × Int × Unit) : α := g x.1.1 x.1.2.1.1 x.1.2.1.2.1 x.1.2.1.2.2.1 x.1.2.1.2.2.2.1 x.1.2.2.1 x.1.2.2.2.1 x.2.1 x.2.2.1
noncomputable def k179  : Con := ⟨79, [.agg [.plain (.str), .list [.int .i64], .plain (.int .i64), .plain (.int .i64)], .one (.plain (.int .i64)), .one (.plain (.int .i64))], w179 (fun cn aq nq mq tq rp fl pt sx => decide (aq + nq ≤ mq ∧ 2 ≤ nq ∧ nq ≤ 20)), w179 (fun cn aq nq mq tq rp fl pt sx => (V179 cn aq nq mq tq rp fl pt sx) (S.ahdB nq (fun j => tq (j + aq)) fl pt sx)), w179 (fun cn aq nq mq tq rp fl pt sx => (N179 cn aq nq mq tq rp fl pt sx) (S.ahdB nq (fun j => tq (j + aq)) fl pt sx)), fun _ _ => .dead⟩
theorem s179' (cn : ByteArray) (aq nq mq : Nat) (tq : Nat → Int) (rp fl pt sx : Int) (hp : aq + nq ≤ mq ∧ 2 ≤ nq ∧ nq ≤ 20) : ∀ (k i : Nat), i + 1 + k = nq → Comes (q179 cn aq nq mq tq rp fl pt sx) (.h0 (min fl (S.minN (fun j => tq (j + aq)) i)) (max fl (S.maxN (fun j => tq (j + aq)) i)) (((i + 1 : Nat)) : Int)) (S.ahdB nq (fun j => tq (j + aq)) fl pt sx) := by
  obtain ⟨hp1, hp2, hp3⟩ := hp
  have e1 : ((nq : Int) - 1).toNat = nq - 1 := by omega
  intro k
  induction k with
  | zero =>
    intro i hi
    unfold S.ahdB
    rw [show nq - 1 = i by omega]
    generalize S.minN (fun j => tq (j + aq)) i = mi
    generalize S.maxN (fun j => tq (j + aq)) i = ma
    apply Comes.of
    show Goes _ _ _
    (first | rw [q179] | unfold q179)
    try simp only [e1, show nq - 1 = i by omega]
    try show Goes _ _ _
    repeat' (first | with_reducible refine goes_if (fun h => ?_) (fun h => ?_) <;> (try simp only [SH] at h) | exact goes_none.mpr (by omega))
    all_goals first | (exfalso; omega) | (refine goes_inr.mpr ?_; first | (rw [if_pos (by omega)]; first | exact (decide_eq_true (by omega)).symm | exact (decide_eq_false (by omega)).symm) | (rw [if_neg (by omega)]; first | exact (decide_eq_true (by omega)).symm | exact (decide_eq_false (by omega)).symm))
  | succ k ih =>
    intro i hi
    have ih := ih (i + 1) (by omega)
    rw [← (minmax (t := (fun j => tq (j + aq))) (fl := fl)).1, ← (minmax (t := (fun j => tq (j + aq))) (fl := fl)).2] at ih
    apply Comes.of
    show Goes _ _ _
    (first | rw [q179] | unfold q179)
    try simp only [Int.toNat_natCast]
    try show Goes _ _ _
    repeat' (first | with_reducible refine goes_if (fun h => ?_) (fun h => ?_) <;> (try simp only [SH] at h) | exact goes_none.mpr (by omega))
    all_goals first | (exfalso; omega) | exact ih
theorem s179 (cn : ByteArray) (aq nq mq : Nat) (tq : Nat → Int) (rp fl pt sx : Int) (hp : aq + nq ≤ mq ∧ 2 ≤ nq ∧ nq ≤ 20) : Goes ((q179 cn aq nq mq tq rp fl pt sx)) ((p179 cn aq nq mq tq rp fl pt sx)) (S.ahdB nq (fun j => tq (j + aq)) fl pt sx) := by
  have hm := s179' cn aq nq mq tq rp fl pt sx hp (nq - 1) 0 (by omega)
  obtain ⟨hp1, hp2, hp3⟩ := hp
  show Comes _ _ _
  apply Comes.of
  show Goes _ _ _
  (first | rw [q179] | unfold q179)
  repeat' (first | with_reducible refine goes_if (fun h => ?_) (fun h => ?_) <;> (try simp only [SH] at h) | exact goes_none.mpr (by omega))
  all_goals first | (exfalso; omega) | exact hm
theorem k179_ok  : k179.ok Try.prog := by
  intro x hx
  obtain ⟨⟨cn, ⟨aq, nq, mq, tq, _⟩, rp, fl, _⟩, pt, sx, _⟩ := x
  obtain ⟨h1, h2⟩ := a179 cn aq nq mq tq rp fl pt sx (s179 cn aq nq mq tq rp fl pt sx (of_dec hx rfl))
  exact ⟨⟨400, (by decide : 1 + 1 + 0 ≤ 400), h1⟩, h2⟩
noncomputable def xH (test : Bool → Prop → Prop → Prop) : Ext := consX test [k117, k136, k179]
theorem xH_ok  : ExtOk Try.prog (xH cond) := consX_ok ⟨k117_ok, k136_ok, k179_ok, trivial⟩
namespace S
abbrev St4  := Int × Bool × Bool × Int
def prS (l : Nat → Int) (pr x : Int) : Int := if x = l pr.toNat then pr + 1 else if x = l 0 then 1 else 0
def setS (n : Nat) (t : Nat → Int) (fl : Int) (nl : Nat) (l : Nat → Int) (a : St4) (x : Int) : St4 :=
  let p := prS l a.1 x
  let ah := a.2.1 && ahdB n t fl a.2.2.2 x
  let dr := a.2.2.1 || (a.2.1 && !ahdB n t fl a.2.2.2 x)
  if p = (nl : Int) then (0, true, dr, fl) else (p, ah, dr, if ah = true then x else a.2.2.2)
def behK (n : Nat) (t : Nat → Int) (fl : Int) (nl : Nat) (l x : Nat → Int) : Nat → St4
  | 0 => (0, false, false, 0)
  | i + 1 => setS n t fl nl l (behK n t fl nl l x i) (x i)
def behS (e : Int) (n : Nat) (t : Nat → Int) (rp fl : Int) (ns : Nat) (x : Nat → Int) : Int × Bool × Bool × Int × Int :=
  if e = 0 then (if setE ns x = 0 then (let a := behK n t fl (stpL n t rp fl).length (fun j => at' (stpL n t rp fl) j) x ns; (a.1, a.2.1, a.2.2.1, a.2.2.2, 0)) else (0, false, false, 0, setE ns x)) else (0, false, false, 0, e)
end S
theorem set_b  {n nl : Nat} {t l : Nat → Int} {fl x : Int} {a : S.St4} (h0 : 2 ≤ nl) (h : 0 ≤ a.1 ∧ a.1 < (nl : Int)) : 0 ≤ (S.setS n t fl nl l a x).1 ∧ (S.setS n t fl nl l a x).1 < (nl : Int) := by
  have hp : 0 ≤ S.prS l a.1 x ∧ S.prS l a.1 x ≤ (nl : Int) := by unfold S.prS; (repeat' split) <;> omega
  unfold S.setS
  generalize S.prS l a.1 x = p at *
  by_cases h1 : p = (nl : Int)
  · simp only [h1, if_true]; omega
  · simp only [h1, if_false]; omega
theorem beh_b  {n nl : Nat} {t l : Nat → Int} {fl : Int} {x : Nat → Int} (h0 : 2 ≤ nl) : ∀ i, 0 ≤ (S.behK n t fl nl l x i).1 ∧ (S.behK n t fl nl l x i).1 < (nl : Int)
  | 0 => ⟨Int.le_refl _, by show (0 : Int) < _; omega⟩
  | i + 1 => set_b h0 (beh_b h0 i)
abbrev St167  := Empty
abbrev Rt167  := Int × Bool × Bool × Int
noncomputable def V167 (cn : ByteArray) (aq nq mq : Nat) (tq : NI) (rp fl : Int) (al nl ml : Nat) (tl : NI) (pr : Int) (on dr : Bool) (pt sx : Int) (r : Rt167) : PV := PV.agg [PV.int .i64 r.1, PV.bool r.2.1, PV.bool r.2.2.1, PV.int .i64 r.2.2.2]
noncomputable def N167 (cn : ByteArray) (aq nq mq : Nat) (tq : NI) (rp fl : Int) (al nl ml : Nat) (tl : NI) (pr : Int) (on dr : Bool) (pt sx : Int) (r : Rt167) : List Blk := []
noncomputable def I167 (cn : ByteArray) (aq nq mq : Nat) (tq : NI) (rp fl : Int) (al nl ml : Nat) (tl : NI) (pr : Int) (on dr : Bool) (pt sx : Int) : St167 → Hd := fun s => s.elim
noncomputable def q167 (cn : ByteArray) (aq nq mq : Nat) (tq : NI) (rp fl : Int) (al nl ml : Nat) (tl : NI) (pr : Int) (on dr : Bool) (pt sx : Int) : St167 → Option (St167 ⊕ Rt167) := fun s => s.elim
noncomputable def p167 (cn : ByteArray) (aq nq mq : Nat) (tq : NI) (rp fl : Int) (al nl ml : Nat) (tl : NI) (pr : Int) (on dr : Bool) (pt sx : Int) : Option (St167 ⊕ Rt167) := bif (on) then (bif (decide (aq + nq ≤ mq ∧ 2 ≤ nq ∧ nq ≤ 20)) then (bif (S.ahdB nq (fun j => tq (j + aq)) fl pt sx) then (bif (decide ((0 : Int) ≤ pr ∧ pr < (↑nl : Int))) then (bif (decide (Int.toNat pr + al < ml)) then (bif (sx == tl (Int.toNat pr + al)) then (bif (lim .i64 (pr + 1)) then (bif (pr + 1 == (↑nl : Int)) then (some (.inr ((0 : Int), true, dr, fl))) else (some (.inr (pr + 1, on, dr, sx)))) else (none)) else (bif (decide ((0 : Int) ≤ 0 ∧ (0 : Int) < (↑nl : Int))) then (bif (decide (0 + al < ml)) then (bif (sx == tl (0 + al)) then (bif ((1 : Int) == (↑nl : Int)) then (some (.inr ((0 : Int), true, dr, fl))) else (some (.inr ((1 : Int), on, dr, sx)))) else (bif ((0 : Int) == (↑nl : Int)) then (some (.inr ((0 : Int), true, dr, fl))) else (some (.inr ((0 : Int), on, dr, sx))))) else (none)) else (none))) else (none)) else (none)) else (bif (decide ((0 : Int) ≤ pr ∧ pr < (↑nl : Int))) then (bif (decide (Int.toNat pr + al < ml)) then (bif (sx == tl (Int.toNat pr + al)) then (bif (lim .i64 (pr + 1)) then (bif (pr + 1 == (↑nl : Int)) then (some (.inr ((0 : Int), true, true, fl))) else (some (.inr (pr + 1, false, true, pt)))) else (none)) else (bif (decide ((0 : Int) ≤ 0 ∧ (0 : Int) < (↑nl : Int))) then (bif (decide (0 + al < ml)) then (bif (sx == tl (0 + al)) then (bif ((1 : Int) == (↑nl : Int)) then (some (.inr ((0 : Int), true, true, fl))) else (some (.inr ((1 : Int), false, true, pt)))) else (bif ((0 : Int) == (↑nl : Int)) then (some (.inr ((0 : Int), true, true, fl))) else (some (.inr ((0 : Int), false, true, pt))))) else (none)) else (none))) else (none)) else (none))) else (none)) else (bif (decide ((0 : Int) ≤ pr ∧ pr < (↑nl : Int))) then (bif (decide (Int.toNat pr + al < ml)) then (bif (sx == tl (Int.toNat pr + al)) then (bif (lim .i64 (pr + 1)) then (bif (pr + 1 == (↑nl : Int)) then (some (.inr ((0 : Int), true, dr, fl))) else (some (.inr (pr + 1, on, dr, pt)))) else (none)) else (bif (decide ((0 : Int) ≤ 0 ∧ (0 : Int) < (↑nl : Int))) then (bif (decide (0 + al < ml)) then (bif (sx == tl (0 + al)) then (bif ((1 : Int) == (↑nl : Int)) then (some (.inr ((0 : Int), true, dr, fl))) else (some (.inr ((1 : Int), on, dr, pt)))) else (bif ((0 : Int) == (↑nl : Int)) then (some (.inr ((0 : Int), true, dr, fl))) else (some (.inr ((0 : Int), on, dr, pt))))) else (none)) else (none))) else (none)) else (none))
noncomputable abbrev u167_e_0 (mq : Nat) (tq : Nat → Int) (ml : Nat) (tl : Nat → Int) := ([[(1, false, Blk.cols ml [Col.int IntKind.i64 tl]), (0, false, Blk.cols mq [Col.int IntKind.i64 tq])]])
noncomputable abbrev u167_e_1 (fl : Int) (dr : Bool) := (PV.agg [PV.int IntKind.i64 (0 : Int), PV.tf true, PV.bool dr, PV.int IntKind.i64 fl])
noncomputable abbrev u167_e_2 (fl : Int) := (PV.agg [PV.int IntKind.i64 (0 : Int), PV.tf true, PV.tf true, PV.int IntKind.i64 fl])
noncomputable abbrev u167_e_3 (nl : Nat) := decide ((0 : Int) ≤ (0 : Int) ∧ (0 : Int) < (↑nl : Int))
def Te167 (test : TT) (Kst : KS) (Kret : KR) (cn : ByteArray) (aq nq mq : Nat) (tq : NI) (rp fl : Int) (al nl ml : Nat) (tl : NI) (pr : Int) (on dr : Bool) (pt sx : Int) : Prop := test (on) (test (decide (aq + nq ≤ mq ∧ 2 ≤ nq ∧ nq ≤ 20)) (test (S.ahdB nq (fun j => tq (j + aq)) fl pt sx) (test (decide ((0 : Int) ≤ pr ∧ pr < (↑nl : Int))) (test (decide (Int.toNat pr + al < ml)) (test (sx == tl (Int.toNat pr + al)) (test (lim .i64 (pr + 1)) (test (pr + 1 == (↑nl : Int)) (Kret (u167_e_1 fl dr) (u167_e_0 mq tq ml tl) (6)) (Kret (PV.agg [PV.int .i64 (pr + 1), PV.bool on, PV.bool dr, PV.int .i64 sx]) (u167_e_0 mq tq ml tl) (6))) (False)) (test (u167_e_3 nl) (test (decide (0 + al < ml)) (test (sx == tl (0 + al)) (test ((1 : Int) == (↑nl : Int)) (Kret (u167_e_1 fl dr) (u167_e_0 mq tq ml tl) (6)) (Kret (PV.agg [PV.int .i64 (1 : Int), PV.bool on, PV.bool dr, PV.int .i64 sx]) (u167_e_0 mq tq ml tl) (6))) (test ((0 : Int) == (↑nl : Int)) (Kret (u167_e_1 fl dr) (u167_e_0 mq tq ml tl) (6)) (Kret (PV.agg [PV.int .i64 (0 : Int), PV.bool on, PV.bool dr, PV.int .i64 sx]) (u167_e_0 mq tq ml tl) (6)))) (False)) (False))) (False)) (False)) (test (on) (test (decide ((0 : Int) ≤ pr ∧ pr < (↑nl : Int))) (test (decide (Int.toNat pr + al < ml)) (test (sx == tl (Int.toNat pr + al)) (test (lim .i64 (pr + 1)) (test (pr + 1 == (↑nl : Int)) (Kret (u167_e_2 fl) (u167_e_0 mq tq ml tl) (6)) (Kret (PV.agg [PV.int .i64 (pr + 1), PV.tf false, PV.tf true, PV.int .i64 pt]) (u167_e_0 mq tq ml tl) (6))) (False)) (test (u167_e_3 nl) (test (decide (0 + al < ml)) (test (sx == tl (0 + al)) (test ((1 : Int) == (↑nl : Int)) (Kret (u167_e_2 fl) (u167_e_0 mq tq ml tl) (6)) (Kret (PV.agg [PV.int .i64 (1 : Int), PV.tf false, PV.tf true, PV.int .i64 pt]) (u167_e_0 mq tq ml tl) (6))) (test ((0 : Int) == (↑nl : Int)) (Kret (u167_e_2 fl) (u167_e_0 mq tq ml tl) (6)) (Kret (PV.agg [PV.int .i64 (0 : Int), PV.tf false, PV.tf true, PV.int .i64 pt]) (u167_e_0 mq tq ml tl) (6)))) (False)) (False))) (False)) (False)) (test (decide ((0 : Int) ≤ pr ∧ pr < (↑nl : Int))) (test (decide (Int.toNat pr + al < ml)) (test (sx == tl (Int.toNat pr + al)) (test (lim .i64 (pr + 1)) (test (pr + 1 == (↑nl : Int)) (Kret (u167_e_1 fl dr) (u167_e_0 mq tq ml tl) (6)) (Kret (PV.agg [PV.int .i64 (pr + 1), PV.bool on, PV.bool dr, PV.int .i64 pt]) (u167_e_0 mq tq ml tl) (6))) (False)) (test (u167_e_3 nl) (test (decide (0 + al < ml)) (test (sx == tl (0 + al)) (test ((1 : Int) == (↑nl : Int)) (Kret (u167_e_1 fl dr) (u167_e_0 mq tq ml tl) (6)) (Kret (PV.agg [PV.int .i64 (1 : Int), PV.bool on, PV.bool dr, PV.int .i64 pt]) (u167_e_0 mq tq ml tl) (6))) (test ((0 : Int) == (↑nl : Int)) (Kret (u167_e_1 fl dr) (u167_e_0 mq tq ml tl) (6)) (Kret (PV.agg [PV.int .i64 (0 : Int), PV.bool on, PV.bool dr, PV.int .i64 pt]) (u167_e_0 mq tq ml tl) (6)))) (False)) (False))) (False)) (False)))) (False)) (test (on) (test (decide ((0 : Int) ≤ pr ∧ pr < (↑nl : Int))) (test (decide (Int.toNat pr + al < ml)) (test (sx == tl (Int.toNat pr + al)) (test (lim .i64 (pr + 1)) (test (pr + 1 == (↑nl : Int)) (Kret (u167_e_2 fl) (u167_e_0 mq tq ml tl) (5)) (Kret (PV.agg [PV.int .i64 (pr + 1), PV.tf false, PV.tf true, PV.int .i64 pt]) (u167_e_0 mq tq ml tl) (5))) (False)) (test (u167_e_3 nl) (test (decide (0 + al < ml)) (test (sx == tl (0 + al)) (test ((1 : Int) == (↑nl : Int)) (Kret (u167_e_2 fl) (u167_e_0 mq tq ml tl) (5)) (Kret (PV.agg [PV.int .i64 (1 : Int), PV.tf false, PV.tf true, PV.int .i64 pt]) (u167_e_0 mq tq ml tl) (5))) (test ((0 : Int) == (↑nl : Int)) (Kret (u167_e_2 fl) (u167_e_0 mq tq ml tl) (5)) (Kret (PV.agg [PV.int .i64 (0 : Int), PV.tf false, PV.tf true, PV.int .i64 pt]) (u167_e_0 mq tq ml tl) (5)))) (False)) (False))) (False)) (False)) (test (decide ((0 : Int) ≤ pr ∧ pr < (↑nl : Int))) (test (decide (Int.toNat pr + al < ml)) (test (sx == tl (Int.toNat pr + al)) (test (lim .i64 (pr + 1)) (test (pr + 1 == (↑nl : Int)) (Kret (u167_e_1 fl dr) (u167_e_0 mq tq ml tl) (5)) (Kret (PV.agg [PV.int .i64 (pr + 1), PV.bool on, PV.bool dr, PV.int .i64 pt]) (u167_e_0 mq tq ml tl) (5))) (False)) (test (u167_e_3 nl) (test (decide (0 + al < ml)) (test (sx == tl (0 + al)) (test ((1 : Int) == (↑nl : Int)) (Kret (u167_e_1 fl dr) (u167_e_0 mq tq ml tl) (5)) (Kret (PV.agg [PV.int .i64 (1 : Int), PV.bool on, PV.bool dr, PV.int .i64 pt]) (u167_e_0 mq tq ml tl) (5))) (test ((0 : Int) == (↑nl : Int)) (Kret (u167_e_1 fl dr) (u167_e_0 mq tq ml tl) (5)) (Kret (PV.agg [PV.int .i64 (0 : Int), PV.bool on, PV.bool dr, PV.int .i64 pt]) (u167_e_0 mq tq ml tl) (5)))) (False)) (False))) (False)) (False)))
theorem te167 (test : TT) (Kst : KS) (Kret : KR) (cn : ByteArray) (aq nq mq : Nat) (tq : NI) (rp fl : Int) (al nl ml : Nat) (tl : NI) (pr : Int) (on dr : Bool) (pt sx : Int) : run test Try.env true (xH test) true 400 ⟨67, [.cd (mkFn Try.f67).body], argT 0 [.agg [.str cn, .loose ⟨0, 1, aq, 0⟩ nq, .int .i64 rp, .int .i64 fl], .loose ⟨1, 1, al, 0⟩ nl, .agg [.int .i64 pr, .bool on, .bool dr, .int .i64 pt], .int .i64 sx], [[], [(0, (false, .cols mq [.int .i64 tq])), (1, (false, .cols ml [.int .i64 tl]))]], 2⟩ (proj 2 [] Kst Kret) =
  Te167 test Kst Kret cn aq nq mq tq rp fl al nl ml tl pr on dr pt sx := by kernel_rfl
attribute [local irreducible] Int.subNatNat in
theorem be167 (cn : ByteArray) (aq nq mq : Nat) (tq : NI) (rp fl : Int) (al nl ml : Nat) (tl : NI) (pr : Int) (on dr : Bool) (pt sx : Int) (Kst : KS) (Kret : KR) (x : St167 ⊕ Rt167) (hS : HS 2 400 ((I167 cn aq nq mq tq rp fl al nl ml tl pr on dr pt sx)) Kst x) (hR : HR 2 400 ((V167 cn aq nq mq tq rp fl al nl ml tl pr on dr pt sx)) (fun r => [newL (2 + 1) ((N167 cn aq nq mq tq rp fl al nl ml tl pr on dr pt sx) r) ++ [(0, (false, .cols mq [.int .i64 tq])), (1, (false, .cols ml [.int .i64 tl]))]]) Kret x) (h : p167 cn aq nq mq tq rp fl al nl ml tl pr on dr pt sx = some x) : Te167 cond Kst Kret cn aq nq mq tq rp fl al nl ml tl pr on dr pt sx := by
  unfold Te167
  unfold p167 at h
  refine bif_split h (fun c0 h => bif_split h (fun c1 h => bif_split h (fun c2 h => bif_split h (fun c3 h => bif_split h (fun c4 h => bif_split h (fun c5 h => bif_split h (fun c6 h => bif_split h (fun c7 h => ?_) (fun c7 h => ?_)) (fun c6 h => ?_)) (fun c5 h => bif_split h (fun c6 h => bif_split h (fun c7 h => bif_split h (fun c8 h => bif_split h (fun c9 h => ?_) (fun c9 h => ?_)) (fun c8 h => bif_split h (fun c9 h => ?_) (fun c9 h => ?_))) (fun c7 h => ?_)) (fun c6 h => ?_))) (fun c4 h => ?_)) (fun c3 h => ?_)) (fun c2 h => cond_yes c0 (bif_split h (fun c3 h => bif_split h (fun c4 h => bif_split h (fun c5 h => bif_split h (fun c6 h => bif_split h (fun c7 h => ?_) (fun c7 h => ?_)) (fun c6 h => ?_)) (fun c5 h => bif_split h (fun c6 h => bif_split h (fun c7 h => bif_split h (fun c8 h => bif_split h (fun c9 h => ?_) (fun c9 h => ?_)) (fun c8 h => bif_split h (fun c9 h => ?_) (fun c9 h => ?_))) (fun c7 h => ?_)) (fun c6 h => ?_))) (fun c4 h => ?_)) (fun c3 h => ?_)))) (fun c1 h => ?_)) (fun c0 h => cond_no c0 (bif_split h (fun c1 h => bif_split h (fun c2 h => bif_split h (fun c3 h => bif_split h (fun c4 h => bif_split h (fun c5 h => ?_) (fun c5 h => ?_)) (fun c4 h => ?_)) (fun c3 h => bif_split h (fun c4 h => bif_split h (fun c5 h => bif_split h (fun c6 h => bif_split h (fun c7 h => ?_) (fun c7 h => ?_)) (fun c6 h => bif_split h (fun c7 h => ?_) (fun c7 h => ?_))) (fun c5 h => ?_)) (fun c4 h => ?_))) (fun c2 h => ?_)) (fun c1 h => ?_)))
  all_goals first
    | exact no_some h
    | exact ret_at hR _ h (fun n => n) rfl rfl rfl (rn_agg ⟨(rn_int rfl), (rn_bool_tf rfl), (rn_bool rfl), (rn_int rfl), trivial⟩) rfl (entl_bor (use_lo rfl) rfl rfl (entl_bor (use_lo rfl) rfl rfl entl_nil))
    | exact ret_at hR _ h (fun n => n) rfl rfl rfl (rn_agg ⟨(rn_int rfl), (rn_bool rfl), (rn_bool rfl), (rn_int rfl), trivial⟩) rfl (entl_bor (use_lo rfl) rfl rfl (entl_bor (use_lo rfl) rfl rfl entl_nil))
    | exact ret_at hR _ h (fun n => n) rfl rfl rfl (rn_agg ⟨(rn_int rfl), (rn_bool_tf rfl), (rn_bool_tf rfl), (rn_int rfl), trivial⟩) rfl (entl_bor (use_lo rfl) rfl rfl (entl_bor (use_lo rfl) rfl rfl entl_nil))
theorem a167 (cn : ByteArray) (aq nq mq : Nat) (tq : NI) (rp fl : Int) (al nl ml : Nat) (tl : NI) (pr : Int) (on dr : Bool) (pt sx : Int) {r : Rt167} (h : Goes ((q167 cn aq nq mq tq rp fl al nl ml tl pr on dr pt sx)) ((p167 cn aq nq mq tq rp fl al nl ml tl pr on dr pt sx)) r) : CallR Try.prog 67 [.agg [.str cn, .loose ⟨0, 1, aq, 0⟩ nq, .int .i64 rp, .int .i64 fl], .loose ⟨1, 1, al, 0⟩ nl, .agg [.int .i64 pr, .bool on, .bool dr, .int .i64 pt], .int .i64 sx] [[(0, (false, .cols mq [.int .i64 tq])), (1, (false, .cols ml [.int .i64 tl]))]] 2 ((V167 cn aq nq mq tq rp fl al nl ml tl pr on dr pt sx) r) ((fun r => [newL (2 + 1) ((N167 cn aq nq mq tq rp fl al nl ml tl pr on dr pt sx) r) ++ [(0, (false, .cols mq [.int .i64 tq])), (1, (false, .cols ml [.int .i64 tl]))]]) r) 400 ∧ ∃ F, Try.prog.funcs[67]? = some F ∧ F.body.isSome = true ∧ (F.name == "runtime.NumGoroutine") = false := by
  refine dec_calls (f := 67) (lo := 2) (hi := 400) (H := [[(0, (false, .cols mq [.int .i64 tq])), (1, (false, .cols ml [.int .i64 tl]))]]) (args := [.agg [.str cn, .loose ⟨0, 1, aq, 0⟩ nq, .int .i64 rp, .int .i64 fl], .loose ⟨1, 1, al, 0⟩ nl, .agg [.int .i64 pr, .bool on, .bool dr, .int .i64 pt], .int .i64 sx]) Try.envOk Try.mixed xH_ok ((I167 cn aq nq mq tq rp fl al nl ml tl pr on dr pt sx)) ((V167 cn aq nq mq tq rp fl al nl ml tl pr on dr pt sx)) (fun r => [newL (2 + 1) ((N167 cn aq nq mq tq rp fl al nl ml tl pr on dr pt sx) r) ++ [(0, (false, .cols mq [.int .i64 tq])), (1, (false, .cols ml [.int .i64 tl]))]]) (fn := mkFn Try.f67) (ts := []) (n := 400) rfl (by decide) (by simp) (names_of rfl) ?_ ?_ ?_ h
  · intro s; exact s.elim
  · intro Kst Kret x hS hR h
    exact Holds.eq (te167 cond Kst Kret cn aq nq mq tq rp fl al nl ml tl pr on dr pt sx) (be167 cn aq nq mq tq rp fl al nl ml tl pr on dr pt sx Kst Kret x hS hR h)
  · intro Kst Kret x hS hR s h; exact s.elim
noncomputable abbrev w167 {α : Type} (g : ByteArray → Nat → Nat → Nat → (Nat → Int) → Int → Int → Nat → Nat → Nat → (Nat → Int) → Int → Bool → Bool → Int → Int → α) (x : (ByteArray × (Nat × Nat × Nat × (Nat → Int) × Unit) × Int × Int × Unit) × (Nat × Nat × Nat × (Nat → Int) × Unit) × (Int × Bool × Bool × Int × Unit) × Int × Unit) : α := g x.1.1 x.1.2.1.1 x.1.2.1.2.1 x.1.2.1.2.2.1 x.1.2.1.2.2.2.1 x.1.2.2.1 x.1.2.2.2.1 x.2.1.1 x.2.1.2.1 x.2.1.2.2.1 x.2.1.2.2.2.1 x.2.2.1.1 x.2.2.1.2.1 x.2.2.1.2.2.1 x.2.2.1.2.2.2.1 x.2.2.2.1
noncomputable def k167  : Con := ⟨67, [.agg [.plain (.str), .list [.int .i64], .plain (.int .i64), .plain (.int .i64)], .one (.list [.int .i64]), .agg [.plain (.int .i64), .plain (.bool), .plain (.bool), .plain (.int .i64)], .one (.plain (.int .i64))], w167 (fun cn aq nq mq tq rp fl al nl ml tl pr on dr pt sx => decide ((aq + nq ≤ mq ∧ 2 ≤ nq ∧ nq ≤ 20) ∧ (al + nl ≤ ml ∧ 2 ≤ nl ∧ nl ≤ 1000) ∧ 0 ≤ pr ∧ pr < (nl : Int))), w167 (fun cn aq nq mq tq rp fl al nl ml tl pr on dr pt sx => (V167 cn aq nq mq tq rp fl al nl ml tl pr on dr pt sx) (S.setS nq (fun j => tq (j + aq)) fl nl (fun j => tl (j + al)) (pr, on, dr, pt) sx)), w167 (fun cn aq nq mq tq rp fl al nl ml tl pr on dr pt sx => (N167 cn aq nq mq tq rp fl al nl ml tl pr on dr pt sx) (S.setS nq (fun j => tq (j + aq)) fl nl (fun j => tl (j + al)) (pr, on, dr, pt) sx)), fun _ _ => .dead⟩
theorem s167 (cn : ByteArray) (aq nq mq : Nat) (tq : Nat → Int) (rp fl : Int) (al nl ml : Nat) (tl : Nat → Int) (pr : Int) (on dr : Bool) (pt sx : Int) (hp : (aq + nq ≤ mq ∧ 2 ≤ nq ∧ nq ≤ 20) ∧ (al + nl ≤ ml ∧ 2 ≤ nl ∧ nl ≤ 1000) ∧ 0 ≤ pr ∧ pr < (nl : Int)) : Goes ((q167 cn aq nq mq tq rp fl al nl ml tl pr on dr pt sx)) ((p167 cn aq nq mq tq rp fl al nl ml tl pr on dr pt sx)) (S.setS nq (fun j => tq (j + aq)) fl nl (fun j => tl (j + al)) (pr, on, dr, pt) sx) := by
  obtain ⟨⟨hp1, hp2, hp3⟩, ⟨hp4, hp5, hp6⟩, hp7, hp8⟩ := hp
  unfold S.setS S.prS p167
  dsimp only
  generalize S.ahdB nq (fun j => tq (j + aq)) fl pt sx = A
  show Goes _ _ _
  cases on <;> cases dr <;> cases A
  all_goals
   repeat' (first | with_reducible refine goes_if (fun h => ?_) (fun h => ?_) <;> (try simp only [SH] at h) | exact goes_none.mpr (by omega))
   all_goals first | (exfalso; omega) | (refine goes_inr.mpr ?_; (repeat' split) <;> first | rfl | (exfalso; omega) | (exfalso; simp_all; done) | (simp only [Bool.true_and, Bool.false_and, Bool.and_true, Bool.or_true, Bool.or_false, Bool.false_or, Bool.not_true, Bool.not_false, Prod.mk.injEq, and_true, true_and, eq_self] at *; omega) | (simp_all; done))
theorem k167_ok  : k167.ok Try.prog := by
  intro x hx
  obtain ⟨⟨cn, ⟨aq, nq, mq, tq, _⟩, rp, fl, _⟩, ⟨al, nl, ml, tl, _⟩, ⟨pr, on, dr, pt, _⟩, sx, _⟩ := x
  obtain ⟨h1, h2⟩ := a167 cn aq nq mq tq rp fl al nl ml tl pr on dr pt sx (s167 cn aq nq mq tq rp fl al nl ml tl pr on dr pt sx (of_dec hx rfl))
  exact ⟨⟨400, (by decide : 2 + 1 + 0 ≤ 400), h1⟩, h2⟩
noncomputable def xB1 (test : Bool → Prop → Prop → Prop) : Ext := consX test [k117, k136, k167]
theorem xB1_ok  : ExtOk Try.prog (xB1 cond) := consX_ok ⟨k117_ok, k136_ok, k167_ok, trivial⟩
abbrev St142  := Empty
abbrev Rt142  := Int
noncomputable def V142 (ar nr mr : Nat) (tr vr gr : NI) (ao no mo : Nat) (to : Nat → Bool) (cn : ByteArray) (aq nq mq : Nat) (tq : NI) (rp fl : Int) (r : Rt142) : PV := PV.int .i64 r
noncomputable def N142 (ar nr mr : Nat) (tr vr gr : NI) (ao no mo : Nat) (to : Nat → Bool) (cn : ByteArray) (aq nq mq : Nat) (tq : NI) (rp fl : Int) (r : Rt142) : List Blk := []
noncomputable def I142 (ar nr mr : Nat) (tr vr gr : NI) (ao no mo : Nat) (to : Nat → Bool) (cn : ByteArray) (aq nq mq : Nat) (tq : NI) (rp fl : Int) : St142 → Hd := fun s => s.elim
noncomputable def q142 (ar nr mr : Nat) (tr vr gr : NI) (ao no mo : Nat) (to : Nat → Bool) (cn : ByteArray) (aq nq mq : Nat) (tq : NI) (rp fl : Int) : St142 → Option (St142 ⊕ Rt142) := fun s => s.elim
noncomputable def p142 (ar nr mr : Nat) (tr vr gr : NI) (ao no mo : Nat) (to : Nat → Bool) (cn : ByteArray) (aq nq mq : Nat) (tq : NI) (rp fl : Int) : Option (St142 ⊕ Rt142) := bif (decide (ar + nr ≤ mr ∧ nr ≤ 1000000)) then (bif (S.magE nr (fun j => tr (j + ar)) (fun j => vr (j + ar)) (fun j => gr (j + ar)) no != 0) then (some (.inr (S.magE nr (fun j => tr (j + ar)) (fun j => vr (j + ar)) (fun j => gr (j + ar)) no))) else (bif (decide (aq + nq ≤ mq ∧ nq ≤ 1000000)) then (some (.inr (S.cyE cn nq (fun j => tq (j + aq)) rp fl))) else (none))) else (none)
def Te142 (test : TT) (Kst : KS) (Kret : KR) (ar nr mr : Nat) (tr vr gr : NI) (ao no mo : Nat) (to : Nat → Bool) (cn : ByteArray) (aq nq mq : Nat) (tq : NI) (rp fl : Int) : Prop := test (decide (ar + nr ≤ mr ∧ nr ≤ 1000000)) (test (S.magE nr (fun j => tr (j + ar)) (fun j => vr (j + ar)) (fun j => gr (j + ar)) no != 0) (Kret (PV.int .i64 (S.magE nr (fun j => tr (j + ar)) (fun j => vr (j + ar)) (fun j => gr (j + ar)) no)) ([[(2, false, Blk.cols mq [Col.int .i64 tq]), (1, false, Blk.cols mo [Col.bool to]), (0, false, Blk.cols mr [Col.int .i64 tr, Col.int .i64 vr, Col.int .i64 gr])]]) (6)) (test (decide (aq + nq ≤ mq ∧ nq ≤ 1000000)) (Kret (PV.int .i64 (S.cyE cn nq (fun j => tq (j + aq)) rp fl)) ([[(2, false, Blk.cols mq [Col.int .i64 tq]), (1, false, Blk.cols mo [Col.bool to]), (0, false, Blk.cols mr [Col.int .i64 tr, Col.int .i64 vr, Col.int .i64 gr])]]) (7)) (False))) (False)
theorem te142 (test : TT) (Kst : KS) (Kret : KR) (ar nr mr : Nat) (tr vr gr : NI) (ao no mo : Nat) (to : Nat → Bool) (cn : ByteArray) (aq nq mq : Nat) (tq : NI) (rp fl : Int) : run test Try.env true (xT2 test) true 400 ⟨42, [.cd (mkFn Try.f42).body], argT 0 [.agg [.loose ⟨0, 3, ar, 0⟩ nr, .loose ⟨1, 1, ao, 0⟩ no], .agg [.str cn, .loose ⟨2, 1, aq, 0⟩ nq, .int .i64 rp, .int .i64 fl]], [[], [(0, (false, .cols mr [.int .i64 tr, .int .i64 vr, .int .i64 gr])), (1, (false, .cols mo [.bool to])), (2, (false, .cols mq [.int .i64 tq]))]], 3⟩ (proj 3 [] Kst Kret) =
  Te142 test Kst Kret ar nr mr tr vr gr ao no mo to cn aq nq mq tq rp fl := by kernel_rfl
noncomputable abbrev J142 (ar nr mr : Nat) (tr : NI) (vr : NI) (gr : NI) (ao no mo : Nat) (to : Nat → Bool) (cn : ByteArray) (aq nq mq : Nat) (tq : NI) (rp : Int) (fl : Int) : Rt142 → Heap := fun r => [newL (3 + 1) ((N142 ar nr mr tr vr gr ao no mo to cn aq nq mq tq rp fl) r) ++ [(0, (false, .cols mr [.int .i64 tr, .int .i64 vr, .int .i64 gr])), (1, (false, .cols mo [.bool to])), (2, (false, .cols mq [.int .i64 tq]))]]
attribute [local irreducible] Int.subNatNat in
theorem be142 (ar nr mr : Nat) (tr vr gr : NI) (ao no mo : Nat) (to : Nat → Bool) (cn : ByteArray) (aq nq mq : Nat) (tq : NI) (rp fl : Int) (Kst : KS) (Kret : KR) (x : St142 ⊕ Rt142) (hS : HS 3 400 ((I142 ar nr mr tr vr gr ao no mo to cn aq nq mq tq rp fl)) Kst x) (hR : HR 3 400 ((V142 ar nr mr tr vr gr ao no mo to cn aq nq mq tq rp fl)) (J142 ar nr mr tr vr gr ao no mo to cn aq nq mq tq rp fl) Kret x) (h : p142 ar nr mr tr vr gr ao no mo to cn aq nq mq tq rp fl = some x) : Te142 cond Kst Kret ar nr mr tr vr gr ao no mo to cn aq nq mq tq rp fl := by
  unfold Te142
  unfold p142 at h
  exact bif_split h (fun c0 h => bif_split h (fun c1 h => ret_at hR _ h (fun n => n) rfl rfl rfl (rn_int rfl) rfl (entl_bor (use_lo rfl) rfl rfl (entl_bor (use_lo rfl) rfl rfl (entl_bor (use_lo rfl) rfl rfl entl_nil)))) (fun c1 h => bif_split h (fun c2 h => ret_at hR _ h (fun n => n) rfl rfl rfl (rn_int rfl) rfl (entl_bor (use_lo rfl) rfl rfl (entl_bor (use_lo rfl) rfl rfl (entl_bor (use_lo rfl) rfl rfl entl_nil)))) (fun c2 h => no_some h))) (fun c0 h => no_some h)
theorem a142 (ar nr mr : Nat) (tr vr gr : NI) (ao no mo : Nat) (to : Nat → Bool) (cn : ByteArray) (aq nq mq : Nat) (tq : NI) (rp fl : Int) {r : Rt142} (h : Goes ((q142 ar nr mr tr vr gr ao no mo to cn aq nq mq tq rp fl)) ((p142 ar nr mr tr vr gr ao no mo to cn aq nq mq tq rp fl)) r) : CallR Try.prog 42 [.agg [.loose ⟨0, 3, ar, 0⟩ nr, .loose ⟨1, 1, ao, 0⟩ no], .agg [.str cn, .loose ⟨2, 1, aq, 0⟩ nq, .int .i64 rp, .int .i64 fl]] [[(0, (false, .cols mr [.int .i64 tr, .int .i64 vr, .int .i64 gr])), (1, (false, .cols mo [.bool to])), (2, (false, .cols mq [.int .i64 tq]))]] 3 ((V142 ar nr mr tr vr gr ao no mo to cn aq nq mq tq rp fl) r) ((J142 ar nr mr tr vr gr ao no mo to cn aq nq mq tq rp fl) r) 400 ∧ ∃ F, Try.prog.funcs[42]? = some F ∧ F.body.isSome = true ∧ (F.name == "runtime.NumGoroutine") = false := by
  refine dec_calls (f := 42) (lo := 3) (hi := 400) (H := [[(0, (false, .cols mr [.int .i64 tr, .int .i64 vr, .int .i64 gr])), (1, (false, .cols mo [.bool to])), (2, (false, .cols mq [.int .i64 tq]))]]) (args := [.agg [.loose ⟨0, 3, ar, 0⟩ nr, .loose ⟨1, 1, ao, 0⟩ no], .agg [.str cn, .loose ⟨2, 1, aq, 0⟩ nq, .int .i64 rp, .int .i64 fl]]) Try.envOk Try.mixed xT2_ok ((I142 ar nr mr tr vr gr ao no mo to cn aq nq mq tq rp fl)) ((V142 ar nr mr tr vr gr ao no mo to cn aq nq mq tq rp fl)) (J142 ar nr mr tr vr gr ao no mo to cn aq nq mq tq rp fl) (fn := mkFn Try.f42) (ts := []) (n := 400) rfl (by decide) (by simp) (names_of rfl) ?_ ?_ ?_ h
  · intro s; exact s.elim
  · intro Kst Kret x hS hR h
    exact Holds.eq (te142 cond Kst Kret ar nr mr tr vr gr ao no mo to cn aq nq mq tq rp fl) (be142 ar nr mr tr vr gr ao no mo to cn aq nq mq tq rp fl Kst Kret x hS hR h)
  · intro Kst Kret x hS hR s h; exact s.elim
noncomputable abbrev w142 {α : Type} (g : Nat → Nat → Nat → (Nat → Int) → (Nat → Int) → (Nat → Int) → Nat → Nat → Nat → (Nat → Bool) → ByteArray → Nat → Nat → Nat → (Nat → Int) → Int → Int → α) (x : ((Nat × Nat × Nat × (Nat → Int) × (Nat → Int) × (Nat → Int) × Unit) × (Nat × Nat × Nat × (Nat → Bool) × Unit) × Unit) × (ByteArray × (Nat × Nat × Nat × (Nat → Int) × Unit) × Int × Int × Unit) × Unit) : α := g x.1.1.1 x.1.1.2.1 x.1.1.2.2.1 x.1.1.2.2.2.1 x.1.1.2.2.2.2.1 x.1.1.2.2.2.2.2.1 x.1.2.1.1 x.1.2.1.2.1 x.1.2.1.2.2.1 x.1.2.1.2.2.2.1 x.2.1.1 x.2.1.2.1.1 x.2.1.2.1.2.1 x.2.1.2.1.2.2.1 x.2.1.2.1.2.2.2.1 x.2.1.2.2.1 x.2.1.2.2.2.1
noncomputable def k142  : Con := ⟨42, [.agg [.list [.int .i64, .int .i64, .int .i64], .list [.bool]], .agg [.plain (.str), .list [.int .i64], .plain (.int .i64), .plain (.int .i64)]], w142 (fun ar nr mr tr vr gr ao no mo to cn aq nq mq tq rp fl => decide ((ar + nr ≤ mr ∧ nr ≤ 1000000) ∧ (aq + nq ≤ mq ∧ nq ≤ 1000000))), w142 (fun ar nr mr tr vr gr ao no mo to cn aq nq mq tq rp fl => (V142 ar nr mr tr vr gr ao no mo to cn aq nq mq tq rp fl) (S.botE (S.magE nr (fun j => tr (j + ar)) (fun j => vr (j + ar)) (fun j => gr (j + ar)) no) (S.cyE cn nq (fun j => tq (j + aq)) rp fl))), w142 (fun ar nr mr tr vr gr ao no mo to cn aq nq mq tq rp fl => (N142 ar nr mr tr vr gr ao no mo to cn aq nq mq tq rp fl) (S.botE (S.magE nr (fun j => tr (j + ar)) (fun j => vr (j + ar)) (fun j => gr (j + ar)) no) (S.cyE cn nq (fun j => tq (j + aq)) rp fl))), fun _ _ => .dead⟩
theorem s142 (ar nr mr : Nat) (tr vr gr : Nat → Int) (ao no mo : Nat) (to : Nat → Bool) (cn : ByteArray) (aq nq mq : Nat) (tq : Nat → Int) (rp fl : Int) (hp : (ar + nr ≤ mr ∧ nr ≤ 1000000) ∧ (aq + nq ≤ mq ∧ nq ≤ 1000000)) : Goes ((q142 ar nr mr tr vr gr ao no mo to cn aq nq mq tq rp fl)) ((p142 ar nr mr tr vr gr ao no mo to cn aq nq mq tq rp fl)) (S.botE (S.magE nr (fun j => tr (j + ar)) (fun j => vr (j + ar)) (fun j => gr (j + ar)) no) (S.cyE cn nq (fun j => tq (j + aq)) rp fl)) := by
  obtain ⟨⟨hp1, hp2⟩, hp3, hp4⟩ := hp
  unfold S.botE p142
  generalize (S.magE nr (fun j => tr (j + ar)) (fun j => vr (j + ar)) (fun j => gr (j + ar)) no) = e at *
  show Goes _ _ _
  repeat' (first | with_reducible refine goes_if (fun h => ?_) (fun h => ?_) <;> (try simp only [SH] at h) | exact goes_none.mpr (by omega))
  all_goals first | (exfalso; omega) | (rw [if_pos (by omega)]; exact goes_inr.mpr rfl) | (rw [if_neg (by omega)]; exact goes_inr.mpr rfl)
theorem k142_ok  : k142.ok Try.prog := by
  intro x hx
  obtain ⟨⟨⟨ar, nr, mr, tr, vr, gr, _⟩, ⟨ao, no, mo, to, _⟩, _⟩, ⟨cn, ⟨aq, nq, mq, tq, _⟩, rp, fl, _⟩, _⟩ := x
  obtain ⟨h1, h2⟩ := a142 ar nr mr tr vr gr ao no mo to cn aq nq mq tq rp fl (s142 ar nr mr tr vr gr ao no mo to cn aq nq mq tq rp fl (of_dec hx rfl))
  exact ⟨⟨400, (by decide : 3 + 1 + 0 ≤ 400), h1⟩, h2⟩
abbrev St120  := Empty
abbrev Rt120  := Bool × Int
noncomputable def V120 (ar nr mr : Nat) (tr vr gr : NI) (ao no mo : Nat) (to : Nat → Bool) (cn : ByteArray) (aq nq mq : Nat) (tq : NI) (rp fl : Int) (r : Rt120) : PV := PV.tup [PV.bool r.1, PV.int .i64 r.2]
noncomputable def N120 (ar nr mr : Nat) (tr vr gr : NI) (ao no mo : Nat) (to : Nat → Bool) (cn : ByteArray) (aq nq mq : Nat) (tq : NI) (rp fl : Int) (r : Rt120) : List Blk := []
noncomputable def I120 (ar nr mr : Nat) (tr vr gr : NI) (ao no mo : Nat) (to : Nat → Bool) (cn : ByteArray) (aq nq mq : Nat) (tq : NI) (rp fl : Int) : St120 → Hd := fun s => s.elim
noncomputable def q120 (ar nr mr : Nat) (tr vr gr : NI) (ao no mo : Nat) (to : Nat → Bool) (cn : ByteArray) (aq nq mq : Nat) (tq : NI) (rp fl : Int) : St120 → Option (St120 ⊕ Rt120) := fun s => s.elim
noncomputable def p120 (ar nr mr : Nat) (tr vr gr : NI) (ao no mo : Nat) (to : Nat → Bool) (cn : ByteArray) (aq nq mq : Nat) (tq : NI) (rp fl : Int) : Option (St120 ⊕ Rt120) := bif (decide (ar + nr ≤ mr ∧ nr ≤ 1000000)) then (bif (S.magE nr (fun j => tr (j + ar)) (fun j => vr (j + ar)) (fun j => gr (j + ar)) no != 0) then (some (.inr (false, S.magE nr (fun j => tr (j + ar)) (fun j => vr (j + ar)) (fun j => gr (j + ar)) no))) else (bif (decide (aq + nq ≤ mq ∧ nq ≤ 1000000)) then (bif (S.cyE cn nq (fun j => tq (j + aq)) rp fl != 0) then (some (.inr (false, S.cyE cn nq (fun j => tq (j + aq)) rp fl))) else (bif (decide (aq + nq ≤ mq ∧ nq ≤ 20 ∧ (0 : Int) ≤ rp ∧ rp ≤ 9)) then (bif (decide (ar + nr ≤ mr ∧ nr ≤ 1000000 ∧ ao + no ≤ mo ∧ no ≤ 1000000 ∧ 0 + List.length (S.stpL nq (fun j => tq (j + aq)) rp fl) ≤ List.length (S.stpL nq (fun j => tq (j + aq)) rp fl) ∧ List.length (S.stpL nq (fun j => tq (j + aq)) rp fl) ≤ 1000000)) then (bif (Prod.fst (S.erS nr (fun j => tr (j + ar)) (fun j => vr (j + ar)) (fun j => gr (j + ar)) no (List.length (S.stpL nq (fun j => tq (j + aq)) rp fl)) fun j => S.at' (S.stpL nq (fun j => tq (j + aq)) rp fl) j)) then (some (.inr (true, Prod.snd (S.erS nr (fun j => tr (j + ar)) (fun j => vr (j + ar)) (fun j => gr (j + ar)) no (List.length (S.stpL nq (fun j => tq (j + aq)) rp fl)) fun j => S.at' (S.stpL nq (fun j => tq (j + aq)) rp fl) j)))) else (some (.inr (false, Prod.snd (S.erS nr (fun j => tr (j + ar)) (fun j => vr (j + ar)) (fun j => gr (j + ar)) no (List.length (S.stpL nq (fun j => tq (j + aq)) rp fl)) fun j => S.at' (S.stpL nq (fun j => tq (j + aq)) rp fl) j))))) else (none)) else (none))) else (none))) else (none)
noncomputable abbrev u120_e_0 (mr : Nat) (tr vr gr : Nat → Int) (mo : Nat) (to : Nat → Bool) (mq : Nat) (tq : Nat → Int) := ([[(2, false, Blk.cols mq [Col.int IntKind.i64 tq]), (1, false, Blk.cols mo [Col.bool to]), (0, false, Blk.cols mr [Col.int IntKind.i64 tr, Col.int IntKind.i64 vr, Col.int IntKind.i64 gr])]])
noncomputable abbrev u120_e_1 (ar nr : Nat) (tr vr gr : Nat → Int) (no aq nq : Nat) (tq : Nat → Int) (rp fl : Int) := S.erS nr (fun j => tr (j + ar)) (fun j => vr (j + ar)) (fun j => gr (j + ar)) no (List.length (S.stpL nq (fun j => tq (j + aq)) rp fl)) fun j => S.at' (S.stpL nq (fun j => tq (j + aq)) rp fl) j
def Te120 (test : TT) (Kst : KS) (Kret : KR) (ar nr mr : Nat) (tr vr gr : NI) (ao no mo : Nat) (to : Nat → Bool) (cn : ByteArray) (aq nq mq : Nat) (tq : NI) (rp fl : Int) : Prop := test (decide (ar + nr ≤ mr ∧ nr ≤ 1000000)) (test (S.magE nr (fun j => tr (j + ar)) (fun j => vr (j + ar)) (fun j => gr (j + ar)) no != 0) (test (S.magE nr (fun j => tr (j + ar)) (fun j => vr (j + ar)) (fun j => gr (j + ar)) no != 0) (Kret (PV.tup [PV.tf false, PV.int .i64 (S.magE nr (fun j => tr (j + ar)) (fun j => vr (j + ar)) (fun j => gr (j + ar)) no)]) (u120_e_0 mr tr vr gr mo to mq tq) (8)) (test (decide (aq + nq ≤ mq ∧ nq ≤ 20 ∧ (0 : Int) ≤ rp ∧ rp ≤ 9)) (test (decide (ar + nr ≤ mr ∧ nr ≤ 1000000 ∧ ao + no ≤ mo ∧ no ≤ 1000000 ∧ 0 + List.length (S.stpL nq (fun j => tq (j + aq)) rp fl) ≤ List.length (S.stpL nq (fun j => tq (j + aq)) rp fl) ∧ List.length (S.stpL nq (fun j => tq (j + aq)) rp fl) ≤ 1000000)) (test (u120_e_1 ar nr tr vr gr no aq nq tq rp fl).1 (Kret (PV.tup [PV.tf true, PV.int .i64 (u120_e_1 ar nr tr vr gr no aq nq tq rp fl).2]) (u120_e_0 mr tr vr gr mo to mq tq) (11)) (Kret (PV.tup [PV.tf false, PV.int .i64 (u120_e_1 ar nr tr vr gr no aq nq tq rp fl).2]) (u120_e_0 mr tr vr gr mo to mq tq) (11))) (False)) (False))) (test (decide (aq + nq ≤ mq ∧ nq ≤ 1000000)) (test (S.cyE cn nq (fun j => tq (j + aq)) rp fl != 0) (Kret (PV.tup [PV.tf false, PV.int .i64 (S.cyE cn nq (fun j => tq (j + aq)) rp fl)]) (u120_e_0 mr tr vr gr mo to mq tq) (9)) (test (decide (aq + nq ≤ mq ∧ nq ≤ 20 ∧ (0 : Int) ≤ rp ∧ rp ≤ 9)) (test (decide (ar + nr ≤ mr ∧ nr ≤ 1000000 ∧ ao + no ≤ mo ∧ no ≤ 1000000 ∧ 0 + List.length (S.stpL nq (fun j => tq (j + aq)) rp fl) ≤ List.length (S.stpL nq (fun j => tq (j + aq)) rp fl) ∧ List.length (S.stpL nq (fun j => tq (j + aq)) rp fl) ≤ 1000000)) (test (u120_e_1 ar nr tr vr gr no aq nq tq rp fl).1 (Kret (PV.tup [PV.tf true, PV.int .i64 (u120_e_1 ar nr tr vr gr no aq nq tq rp fl).2]) (u120_e_0 mr tr vr gr mo to mq tq) (12)) (Kret (PV.tup [PV.tf false, PV.int .i64 (u120_e_1 ar nr tr vr gr no aq nq tq rp fl).2]) (u120_e_0 mr tr vr gr mo to mq tq) (12))) (False)) (False))) (False))) (False)
theorem te120 (test : TT) (Kst : KS) (Kret : KR) (ar nr mr : Nat) (tr vr gr : NI) (ao no mo : Nat) (to : Nat → Bool) (cn : ByteArray) (aq nq mq : Nat) (tq : NI) (rp fl : Int) : run test Try.env true (xT2 test) true 400 ⟨20, [.cd (mkFn Try.f20).body], argT 0 [.agg [.loose ⟨0, 3, ar, 0⟩ nr, .loose ⟨1, 1, ao, 0⟩ no], .agg [.str cn, .loose ⟨2, 1, aq, 0⟩ nq, .int .i64 rp, .int .i64 fl]], [[], [(0, (false, .cols mr [.int .i64 tr, .int .i64 vr, .int .i64 gr])), (1, (false, .cols mo [.bool to])), (2, (false, .cols mq [.int .i64 tq]))]], 3⟩ (proj 3 [] Kst Kret) =
  Te120 test Kst Kret ar nr mr tr vr gr ao no mo to cn aq nq mq tq rp fl := by kernel_rfl
noncomputable abbrev J120 (ar nr mr : Nat) (tr : NI) (vr : NI) (gr : NI) (ao no mo : Nat) (to : Nat → Bool) (cn : ByteArray) (aq nq mq : Nat) (tq : NI) (rp : Int) (fl : Int) : Rt120 → Heap := fun r => [newL (3 + 1) ((N120 ar nr mr tr vr gr ao no mo to cn aq nq mq tq rp fl) r) ++ [(0, (false, .cols mr [.int .i64 tr, .int .i64 vr, .int .i64 gr])), (1, (false, .cols mo [.bool to])), (2, (false, .cols mq [.int .i64 tq]))]]
attribute [local irreducible] Int.subNatNat in
theorem be120 (ar nr mr : Nat) (tr vr gr : NI) (ao no mo : Nat) (to : Nat → Bool) (cn : ByteArray) (aq nq mq : Nat) (tq : NI) (rp fl : Int) (Kst : KS) (Kret : KR) (x : St120 ⊕ Rt120) (hS : HS 3 400 ((I120 ar nr mr tr vr gr ao no mo to cn aq nq mq tq rp fl)) Kst x) (hR : HR 3 400 ((V120 ar nr mr tr vr gr ao no mo to cn aq nq mq tq rp fl)) (J120 ar nr mr tr vr gr ao no mo to cn aq nq mq tq rp fl) Kret x) (h : p120 ar nr mr tr vr gr ao no mo to cn aq nq mq tq rp fl = some x) : Te120 cond Kst Kret ar nr mr tr vr gr ao no mo to cn aq nq mq tq rp fl := by
  unfold Te120
  unfold p120 at h
  refine bif_split h (fun c0 h => bif_split h (fun c1 h => cond_yes c1 (ret_at hR _ h (fun n => n) rfl rfl rfl (rn_tup ⟨(rn_bool_tf rfl), (rn_int rfl), trivial⟩) rfl (entl_bor (use_lo rfl) rfl rfl (entl_bor (use_lo rfl) rfl rfl (entl_bor (use_lo rfl) rfl rfl entl_nil))))) (fun c1 h => bif_split h (fun c2 h => bif_split h (fun c3 h => ?_) (fun c3 h => bif_split h (fun c4 h => bif_split h (fun c5 h => bif_split h (fun c6 h => ?_) (fun c6 h => ?_)) (fun c5 h => ?_)) (fun c4 h => ?_))) (fun c2 h => ?_))) (fun c0 h => ?_)
  all_goals first
    | exact no_some h
    | exact ret_at hR _ h (fun n => n) rfl rfl rfl (rn_tup ⟨(rn_bool_tf rfl), (rn_int rfl), trivial⟩) rfl (entl_bor (use_lo rfl) rfl rfl (entl_bor (use_lo rfl) rfl rfl (entl_bor (use_lo rfl) rfl rfl entl_nil)))
theorem a120 (ar nr mr : Nat) (tr vr gr : NI) (ao no mo : Nat) (to : Nat → Bool) (cn : ByteArray) (aq nq mq : Nat) (tq : NI) (rp fl : Int) {r : Rt120} (h : Goes ((q120 ar nr mr tr vr gr ao no mo to cn aq nq mq tq rp fl)) ((p120 ar nr mr tr vr gr ao no mo to cn aq nq mq tq rp fl)) r) : CallR Try.prog 20 [.agg [.loose ⟨0, 3, ar, 0⟩ nr, .loose ⟨1, 1, ao, 0⟩ no], .agg [.str cn, .loose ⟨2, 1, aq, 0⟩ nq, .int .i64 rp, .int .i64 fl]] [[(0, (false, .cols mr [.int .i64 tr, .int .i64 vr, .int .i64 gr])), (1, (false, .cols mo [.bool to])), (2, (false, .cols mq [.int .i64 tq]))]] 3 ((V120 ar nr mr tr vr gr ao no mo to cn aq nq mq tq rp fl) r) ((J120 ar nr mr tr vr gr ao no mo to cn aq nq mq tq rp fl) r) 400 ∧ ∃ F, Try.prog.funcs[20]? = some F ∧ F.body.isSome = true ∧ (F.name == "runtime.NumGoroutine") = false := by
  refine dec_calls (f := 20) (lo := 3) (hi := 400) (H := [[(0, (false, .cols mr [.int .i64 tr, .int .i64 vr, .int .i64 gr])), (1, (false, .cols mo [.bool to])), (2, (false, .cols mq [.int .i64 tq]))]]) (args := [.agg [.loose ⟨0, 3, ar, 0⟩ nr, .loose ⟨1, 1, ao, 0⟩ no], .agg [.str cn, .loose ⟨2, 1, aq, 0⟩ nq, .int .i64 rp, .int .i64 fl]]) Try.envOk Try.mixed xT2_ok ((I120 ar nr mr tr vr gr ao no mo to cn aq nq mq tq rp fl)) ((V120 ar nr mr tr vr gr ao no mo to cn aq nq mq tq rp fl)) (J120 ar nr mr tr vr gr ao no mo to cn aq nq mq tq rp fl) (fn := mkFn Try.f20) (ts := []) (n := 400) rfl (by decide) (by simp) (names_of rfl) ?_ ?_ ?_ h
  · intro s; exact s.elim
  · intro Kst Kret x hS hR h
    exact Holds.eq (te120 cond Kst Kret ar nr mr tr vr gr ao no mo to cn aq nq mq tq rp fl) (be120 ar nr mr tr vr gr ao no mo to cn aq nq mq tq rp fl Kst Kret x hS hR h)
  · intro Kst Kret x hS hR s h; exact s.elim
noncomputable abbrev w120 {α : Type} (g : Nat → Nat → Nat → (Nat → Int) → (Nat → Int) → (Nat → Int) → Nat → Nat → Nat → (Nat → Bool) → ByteArray → Nat → Nat → Nat → (Nat → Int) → Int → Int → α) (x : ((Nat × Nat × Nat × (Nat → Int) × (Nat → Int) × (Nat → Int) × Unit) × (Nat × Nat × Nat × (Nat → Bool) × Unit) × Unit) × (ByteArray × (Nat × Nat × Nat × (Nat → Int) × Unit) × Int × Int × Unit) × Unit) : α := g x.1.1.1 x.1.1.2.1 x.1.1.2.2.1 x.1.1.2.2.2.1 x.1.1.2.2.2.2.1 x.1.1.2.2.2.2.2.1 x.1.2.1.1 x.1.2.1.2.1 x.1.2.1.2.2.1 x.1.2.1.2.2.2.1 x.2.1.1 x.2.1.2.1.1 x.2.1.2.1.2.1 x.2.1.2.1.2.2.1 x.2.1.2.1.2.2.2.1 x.2.1.2.2.1 x.2.1.2.2.2.1
noncomputable def k120  : Con := ⟨20, [.agg [.list [.int .i64, .int .i64, .int .i64], .list [.bool]], .agg [.plain (.str), .list [.int .i64], .plain (.int .i64), .plain (.int .i64)]], w120 (fun ar nr mr tr vr gr ao no mo to cn aq nq mq tq rp fl => decide ((ar + nr ≤ mr ∧ nr ≤ 1000000) ∧ (ao + no ≤ mo ∧ no ≤ 1000000) ∧ (aq + nq ≤ mq ∧ nq ≤ 1000000))), w120 (fun ar nr mr tr vr gr ao no mo to cn aq nq mq tq rp fl => (V120 ar nr mr tr vr gr ao no mo to cn aq nq mq tq rp fl) (S.suiS (S.botE (S.magE nr (fun j => tr (j + ar)) (fun j => vr (j + ar)) (fun j => gr (j + ar)) no) (S.cyE cn nq (fun j => tq (j + aq)) rp fl)) (S.erB (fun j => tr (j + ar)) (fun j => vr (j + ar)) (S.stpL nq (fun j => tq (j + aq)) rp fl).length (fun j => S.at' (S.stpL nq (fun j => tq (j + aq)) rp fl) j) 0 nr))), w120 (fun ar nr mr tr vr gr ao no mo to cn aq nq mq tq rp fl => (N120 ar nr mr tr vr gr ao no mo to cn aq nq mq tq rp fl) (S.suiS (S.botE (S.magE nr (fun j => tr (j + ar)) (fun j => vr (j + ar)) (fun j => gr (j + ar)) no) (S.cyE cn nq (fun j => tq (j + aq)) rp fl)) (S.erB (fun j => tr (j + ar)) (fun j => vr (j + ar)) (S.stpL nq (fun j => tq (j + aq)) rp fl).length (fun j => S.at' (S.stpL nq (fun j => tq (j + aq)) rp fl) j) 0 nr))), fun _ _ => .dead⟩
theorem s120 (ar nr mr : Nat) (tr vr gr : Nat → Int) (ao no mo : Nat) (to : Nat → Bool) (cn : ByteArray) (aq nq mq : Nat) (tq : Nat → Int) (rp fl : Int) (hp : (ar + nr ≤ mr ∧ nr ≤ 1000000) ∧ (ao + no ≤ mo ∧ no ≤ 1000000) ∧ (aq + nq ≤ mq ∧ nq ≤ 1000000)) : Goes ((q120 ar nr mr tr vr gr ao no mo to cn aq nq mq tq rp fl)) ((p120 ar nr mr tr vr gr ao no mo to cn aq nq mq tq rp fl)) (S.suiS (S.botE (S.magE nr (fun j => tr (j + ar)) (fun j => vr (j + ar)) (fun j => gr (j + ar)) no) (S.cyE cn nq (fun j => tq (j + aq)) rp fl)) (S.erB (fun j => tr (j + ar)) (fun j => vr (j + ar)) (S.stpL nq (fun j => tq (j + aq)) rp fl).length (fun j => S.at' (S.stpL nq (fun j => tq (j + aq)) rp fl) j) 0 nr)) := by
  obtain ⟨⟨hp1, hp2⟩, ⟨hp5, hp6⟩, hp3, hp4⟩ := hp
  have hc : (S.cyE cn nq (fun j => tq (j + aq)) rp fl) = 0 → (nq ≤ 20 ∧ 0 ≤ rp ∧ rp ≤ 9) ∧ (S.stpL nq (fun j => tq (j + aq)) rp fl).length ≤ 181 := fun h => by have := cy_ok h; have := stp_in h; omega
  unfold S.suiS S.botE
  by_cases hm : (S.magE nr (fun j => tr (j + ar)) (fun j => vr (j + ar)) (fun j => gr (j + ar)) no) = 0
  · by_cases hy : (S.cyE cn nq (fun j => tq (j + aq)) rp fl) = 0
    · have hst := stp_in hy
      have he : S.erS nr (fun j => tr (j + ar)) (fun j => vr (j + ar)) (fun j => gr (j + ar)) no (S.stpL nq (fun j => tq (j + aq)) rp fl).length (fun j => S.at' (S.stpL nq (fun j => tq (j + aq)) rp fl) j) = (S.erB (fun j => tr (j + ar)) (fun j => vr (j + ar)) (S.stpL nq (fun j => tq (j + aq)) rp fl).length (fun j => S.at' (S.stpL nq (fun j => tq (j + aq)) rp fl) j) 0 nr, 0) := er_in hm (by omega) hst.2.2
      have hc := hc hy
      rw [if_pos hm, if_pos hy]
      unfold p120
      simp only [hm, hy, he]
      clear he
      generalize S.erB (fun j => tr (j + ar)) (fun j => vr (j + ar)) (S.stpL nq (fun j => tq (j + aq)) rp fl).length (fun j => S.at' (S.stpL nq (fun j => tq (j + aq)) rp fl) j) 0 nr = A at *
      generalize (S.stpL nq (fun j => tq (j + aq)) rp fl) = L at *
      cases A
      all_goals
       show Goes _ _ _
       repeat' (first | with_reducible refine goes_if (fun h => ?_) (fun h => ?_) <;> (try simp only [SH] at h) | exact goes_none.mpr (by omega))
       all_goals first | (exfalso; omega) | exact goes_inr.mpr rfl | (exfalso; simp_all; done)
    · rw [if_pos hm, if_neg hy]
      unfold p120
      simp only [hm]
      generalize (S.cyE cn nq (fun j => tq (j + aq)) rp fl) = e at *
      show Goes _ _ _
      repeat' (first | with_reducible refine goes_if (fun h => ?_) (fun h => ?_) <;> (try simp only [SH] at h) | exact goes_none.mpr (by omega))
      all_goals first | (exfalso; omega) | exact goes_inr.mpr rfl | (exfalso; simp_all; done)
  · rw [if_neg hm, if_neg hm]
    unfold p120
    generalize (S.magE nr (fun j => tr (j + ar)) (fun j => vr (j + ar)) (fun j => gr (j + ar)) no) = e at *
    show Goes _ _ _
    repeat' (first | with_reducible refine goes_if (fun h => ?_) (fun h => ?_) <;> (try simp only [SH] at h) | exact goes_none.mpr (by omega))
    all_goals first | (exfalso; omega) | exact goes_inr.mpr rfl | (exfalso; simp_all; done)
theorem k120_ok  : k120.ok Try.prog := by
  intro x hx
  obtain ⟨⟨⟨ar, nr, mr, tr, vr, gr, _⟩, ⟨ao, no, mo, to, _⟩, _⟩, ⟨cn, ⟨aq, nq, mq, tq, _⟩, rp, fl, _⟩, _⟩ := x
  obtain ⟨h1, h2⟩ := a120 ar nr mr tr vr gr ao no mo to cn aq nq mq tq rp fl (s120 ar nr mr tr vr gr ao no mo to cn aq nq mq tq rp fl (of_dec hx rfl))
  exact ⟨⟨400, (by decide : 3 + 1 + 0 ≤ 400), h1⟩, h2⟩
inductive St148 where
  | h0 (x0 : Int) (x1 : Int) (x2 : Bool) (x3 : Bool) (x4 : Int) (x5 : List Int)
abbrev Rt148  := Int × Bool × Bool × Int × Int
noncomputable def V148 (cn : ByteArray) (aq nq mq : Nat) (tq : NI) (rp fl : Int) (al nl ml : Nat) (tl : NI) (r : Rt148) : PV := PV.tup [PV.agg [PV.int .i64 r.1, PV.bool r.2.1, PV.bool r.2.2.1, PV.int .i64 r.2.2.2.1], PV.int .i64 r.2.2.2.2]
noncomputable def N148 (cn : ByteArray) (aq nq mq : Nat) (tq : NI) (rp fl : Int) (al nl ml : Nat) (tl : NI) (r : Rt148) : List Blk := []
noncomputable def I148 (cn : ByteArray) (aq nq mq : Nat) (tq : NI) (rp fl : Int) (al nl ml : Nat) (tl : NI) : St148 → Hd
  | .h0 x0 x1 x2 x3 x4 x5 => ⟨hd Try.f48 0, [PV.loose (PA.mk (1) (1) al (0)) nl,
 PV.ptr (PA.mk (2) (0) (0) (0)),
 PV.ptr (PA.mk (3) (0) (0) (0)),
 PV.ptr (PA.mk (4) (0) (0) (0)),
 PV.own (5) (1) (List.length x5), PV.int .i64 x0], [[(2, (true, Blk.cells
 [PV.str cn, PV.loose (PA.mk (0) (1) aq (0)) nq,
 PV.int .i64 rp, PV.int .i64 fl])), (3, (true, Blk.cells
 [PV.int .i64 (0 : Int), PV.tf false, PV.tf false,
 PV.int .i64 (0 : Int)])), (4, (true, Blk.cells [PV.int .i64 x1, PV.bool x2, PV.bool x3, PV.int .i64 x4])), (5, (true, Blk.cols (List.length x5) [Col.int .i64 fun j => S.at' x5 j]))], [(0, (false, .cols mq [.int .i64 tq])), (1, (false, .cols ml [.int .i64 tl]))]], 6⟩
noncomputable def q148 (cn : ByteArray) (aq nq mq : Nat) (tq : NI) (rp fl : Int) (al nl ml : Nat) (tl : NI) : St148 → Option (St148 ⊕ Rt148) | .h0 x0 x1 x2 x3 x4 x5 => bif (decide (x0 < (↑nl : Int))) then (bif (decide ((0 : Int) ≤ x0 ∧ x0 < (↑nl : Int))) then (bif (decide (Int.toNat x0 + al < ml)) then (bif (decide (tl (Int.toNat x0 + al) ≥ -1099511627776)) then (bif (decide (tl (Int.toNat x0 + al) ≤ 1099511627776)) then (bif (decide ((aq + nq ≤ mq ∧ 2 ≤ nq ∧ nq ≤ 20) ∧ (0 + List.length x5 ≤ List.length x5 ∧ 2 ≤ List.length x5 ∧ List.length x5 ≤ 1000) ∧ (0 : Int) ≤ x1 ∧ x1 < (↑(List.length x5) : Int))) then (bif (lim .i64 (x0 + 1)) then (some (.inl (.h0 (x0 + 1) (Prod.fst (S.setS nq (fun j => tq (j + aq)) fl (List.length x5) (fun j => S.at' x5 j) (x1, x2, x3, x4) (tl (Int.toNat x0 + al)))) (Prod.fst (Prod.snd (S.setS nq (fun j => tq (j + aq)) fl (List.length x5) (fun j => S.at' x5 j) (x1, x2, x3, x4) (tl (Int.toNat x0 + al))))) (Prod.fst (Prod.snd (Prod.snd (S.setS nq (fun j => tq (j + aq)) fl (List.length x5) (fun j => S.at' x5 j) (x1, x2, x3, x4) (tl (Int.toNat x0 + al)))))) (Prod.snd (Prod.snd (Prod.snd (S.setS nq (fun j => tq (j + aq)) fl (List.length x5) (fun j => S.at' x5 j) (x1, x2, x3, x4) (tl (Int.toNat x0 + al)))))) (x5)))) else (none)) else (none)) else (some (.inr ((0 : Int), false, false, (0 : Int), (6 : Int))))) else (some (.inr ((0 : Int), false, false, (0 : Int), (6 : Int))))) else (none)) else (none)) else (some (.inr (x1, x2, x3, x4, (0 : Int))))
noncomputable def p148 (cn : ByteArray) (aq nq mq : Nat) (tq : NI) (rp fl : Int) (al nl ml : Nat) (tl : NI) : Option (St148 ⊕ Rt148) := bif (decide (aq + nq ≤ mq ∧ nq ≤ 1000000)) then (bif (S.cyE cn nq (fun j => tq (j + aq)) rp fl != 0) then (some (.inr ((0 : Int), false, false, (0 : Int), S.cyE cn nq (fun j => tq (j + aq)) rp fl))) else (bif (decide ((↑nl : Int) > 500)) then (some (.inr ((0 : Int), false, false, (0 : Int), (3 : Int)))) else (bif (decide (aq + nq ≤ mq ∧ nq ≤ 20 ∧ (0 : Int) ≤ rp ∧ rp ≤ 9)) then (some (.inl (.h0 ((0 : Int)) ((0 : Int)) (false) (false) ((0 : Int)) (S.stpL nq (fun j => tq (j + aq)) rp fl)))) else (none)))) else (none)
def Te148 (test : TT) (Kst : KS) (Kret : KR) (cn : ByteArray) (aq nq mq : Nat) (tq : NI) (rp fl : Int) (al nl ml : Nat) (tl : NI) : Prop := test (decide (aq + nq ≤ mq ∧ nq ≤ 1000000)) (test (S.cyE cn nq (fun j => tq (j + aq)) rp fl != 0) (Kret (PV.tup [PV.agg [PV.int .i64 (0 : Int), PV.tf false, PV.tf false, PV.int .i64 (0 : Int)], PV.int .i64 (S.cyE cn nq (fun j => tq (j + aq)) rp fl)]) ([[(1, false, Blk.cols ml [Col.int .i64 tl]), (0, false, Blk.cols mq [Col.int .i64 tq])]]) (5)) (test (decide ((↑nl : Int) > 500)) (Kret (PV.tup [PV.agg [PV.int .i64 (0 : Int), PV.tf false, PV.tf false, PV.int .i64 (0 : Int)], PV.int .i64 (3 : Int)]) ([[(1, false, Blk.cols ml [Col.int .i64 tl]), (0, false, Blk.cols mq [Col.int .i64 tq])]]) (5)) (test (decide (aq + nq ≤ mq ∧ nq ≤ 20 ∧ (0 : Int) ≤ rp ∧ rp ≤ 9)) (Kst (hd Try.f48 0) ([PV.loose (PA.mk (1) (1) al (0)) nl, PV.ptr (PA.mk (2) (0) (0) (0)), PV.ptr (PA.mk (3) (0) (0) (0)), PV.ptr (PA.mk (5) (0) (0) (0)), PV.own (7) (1) (List.length (S.stpL nq (fun j => tq (j + aq)) rp fl)), PV.int .i64 (0 : Int)]) ([[(1, false, Blk.cols ml [Col.int .i64 tl]), (0, false, Blk.cols mq [Col.int .i64 tq]), (7, true, Blk.cols (List.length (S.stpL nq (fun j => tq (j + aq)) rp fl)) [Col.int .i64 fun j => S.at' (S.stpL nq (fun j => tq (j + aq)) rp fl) j]), (5, true, Blk.cells [PV.int .i64 (0 : Int), PV.tf false, PV.tf false, PV.int .i64 (0 : Int)]), (3, true, Blk.cells [PV.int .i64 (0 : Int), PV.tf false, PV.tf false, PV.int .i64 (0 : Int)]), (2, true, Blk.cells [PV.str cn, PV.loose (PA.mk (0) (1) aq (0)) nq, PV.int .i64 rp, PV.int .i64 fl])]]) (8)) (False)))) (False)
theorem te148 (test : TT) (Kst : KS) (Kret : KR) (cn : ByteArray) (aq nq mq : Nat) (tq : NI) (rp fl : Int) (al nl ml : Nat) (tl : NI) : run test Try.env true (xB1 test) true 400 ⟨48, [.cd (mkFn Try.f48).body], argT 0 [.agg [.str cn, .loose ⟨0, 1, aq, 0⟩ nq, .int .i64 rp, .int .i64 fl], .loose ⟨1, 1, al, 0⟩ nl], [[], [(0, (false, .cols mq [.int .i64 tq])), (1, (false, .cols ml [.int .i64 tl]))]], 2⟩ (proj 2 [1, 2, 4, 7, 8, 9] Kst Kret) =
  Te148 test Kst Kret cn aq nq mq tq rp fl al nl ml tl := by kernel_rfl
def T148_0 (test : TT) (Kst : KS) (Kret : KR) (cn : ByteArray) (aq nq mq : Nat) (tq : NI) (rp fl : Int) (al nl ml : Nat) (tl : NI) (x0 x1 : Int) (x2 x3 : Bool) (x4 : Int) (x5 : List Int) : Prop := test (decide (x0 < (↑nl : Int))) (test (decide ((0 : Int) ≤ x0 ∧ x0 < (↑nl : Int))) (test (decide (Int.toNat x0 + al < ml)) (test (decide (tl (Int.toNat x0 + al) ≥ -1099511627776)) (test (decide (tl (Int.toNat x0 + al) ≤ 1099511627776)) (test (decide ((0 : Int) ≤ x0 ∧ x0 < (↑nl : Int))) (test (decide (Int.toNat x0 + al < ml)) (test (decide ((aq + nq ≤ mq ∧ 2 ≤ nq ∧ nq ≤ 20) ∧ (0 + List.length x5 ≤ List.length x5 ∧ 2 ≤ List.length x5 ∧ List.length x5 ≤ 1000) ∧ (0 : Int) ≤ x1 ∧ x1 < (↑(List.length x5) : Int))) (test (lim .i64 (x0 + 1)) (Kst (hd Try.f48 0) ([PV.loose (PA.mk (1) (1) al (0)) nl, PV.ptr (PA.mk (2) (0) (0) (0)), PV.ptr (PA.mk (3) (0) (0) (0)), PV.ptr (PA.mk (4) (0) (0) (0)), PV.own (5) (1) (List.length x5), PV.int .i64 (x0 + 1)]) ([[(1, false, Blk.cols ml [Col.int .i64 tl]), (0, false, Blk.cols mq [Col.int .i64 tq]), (5, true, Blk.cols (List.length x5) [Col.int .i64 fun j => S.at' x5 j]), (4, true, Blk.cells [PV.int .i64 (S.setS nq (fun j => tq (j + aq)) fl (List.length x5) (fun j => S.at' x5 j) (x1, x2, x3, x4) (tl (Int.toNat x0 + al))).1, PV.bool (S.setS nq (fun j => tq (j + aq)) fl (List.length x5) (fun j => S.at' x5 j) (x1, x2, x3, x4) (tl (Int.toNat x0 + al))).2.1, PV.bool (S.setS nq (fun j => tq (j + aq)) fl (List.length x5) (fun j => S.at' x5 j) (x1, x2, x3, x4) (tl (Int.toNat x0 + al))).2.2.1, PV.int .i64 (S.setS nq (fun j => tq (j + aq)) fl (List.length x5) (fun j => S.at' x5 j) (x1, x2, x3, x4) (tl (Int.toNat x0 + al))).2.2.2]), (3, true, Blk.cells [PV.int .i64 (0 : Int), PV.tf false, PV.tf false, PV.int .i64 (0 : Int)]), (2, true, Blk.cells [PV.str cn, PV.loose (PA.mk (0) (1) aq (0)) nq, PV.int .i64 rp, PV.int .i64 fl])]]) (7)) (False)) (False)) (False)) (False)) (Kret (PV.tup [PV.agg [PV.int .i64 (0 : Int), PV.tf false, PV.tf false, PV.int .i64 (0 : Int)], PV.int .i64 (6 : Int)]) ([[(1, false, Blk.cols ml [Col.int .i64 tl]), (0, false, Blk.cols mq [Col.int .i64 tq])]]) (6))) (Kret (PV.tup [PV.agg [PV.int .i64 (0 : Int), PV.tf false, PV.tf false, PV.int .i64 (0 : Int)], PV.int .i64 (6 : Int)]) ([[(1, false, Blk.cols ml [Col.int .i64 tl]), (0, false, Blk.cols mq [Col.int .i64 tq])]]) (6))) (False)) (False)) (Kret (PV.tup [PV.agg [PV.int .i64 x1, PV.bool x2, PV.bool x3, PV.int .i64 x4], PV.int .i64 (0 : Int)]) ([[(1, false, Blk.cols ml [Col.int .i64 tl]), (0, false, Blk.cols mq [Col.int .i64 tq])]]) (6))
theorem t148_0 (test : TT) (Kst : KS) (Kret : KR) (cn : ByteArray) (aq nq mq : Nat) (tq : NI) (rp fl : Int) (al nl ml : Nat) (tl : NI) (x0 x1 : Int) (x2 x3 : Bool) (x4 : Int) (x5 : List Int) : run test Try.env true (xB1 test) true 400 ⟨48, hd Try.f48 0, zipT [1, 2, 4, 7, 8, 9] [PV.loose (PA.mk (1) (1) al (0)) nl,
 PV.ptr (PA.mk (2) (0) (0) (0)),
 PV.ptr (PA.mk (3) (0) (0) (0)),
 PV.ptr (PA.mk (4) (0) (0) (0)),
 PV.own (5) (1) (List.length x5), PV.int .i64 x0], [[(2, (true, Blk.cells
 [PV.str cn, PV.loose (PA.mk (0) (1) aq (0)) nq,
 PV.int .i64 rp, PV.int .i64 fl])), (3, (true, Blk.cells
 [PV.int .i64 (0 : Int), PV.tf false, PV.tf false,
 PV.int .i64 (0 : Int)])), (4, (true, Blk.cells [PV.int .i64 x1, PV.bool x2, PV.bool x3, PV.int .i64 x4])), (5, (true, Blk.cols (List.length x5) [Col.int .i64 fun j => S.at' x5 j]))], [(0, (false, .cols mq [.int .i64 tq])), (1, (false, .cols ml [.int .i64 tl]))]], 6⟩ (proj 2 [1, 2, 4, 7, 8, 9] Kst Kret) =
  T148_0 test Kst Kret cn aq nq mq tq rp fl al nl ml tl x0 x1 x2 x3 x4 x5 := by kernel_rfl
noncomputable abbrev J148 (cn : ByteArray) (aq nq mq : Nat) (tq : NI) (rp : Int) (fl : Int) (al nl ml : Nat) (tl : NI) : Rt148 → Heap := fun r => [newL (2 + 1) ((N148 cn aq nq mq tq rp fl al nl ml tl) r) ++ [(0, (false, .cols mq [.int .i64 tq])), (1, (false, .cols ml [.int .i64 tl]))]]
attribute [local irreducible] Int.subNatNat in
theorem be148 (cn : ByteArray) (aq nq mq : Nat) (tq : NI) (rp fl : Int) (al nl ml : Nat) (tl : NI) (Kst : KS) (Kret : KR) (x : St148 ⊕ Rt148) (hS : HS 2 400 ((I148 cn aq nq mq tq rp fl al nl ml tl)) Kst x) (hR : HR 2 400 ((V148 cn aq nq mq tq rp fl al nl ml tl)) (J148 cn aq nq mq tq rp fl al nl ml tl) Kret x) (h : p148 cn aq nq mq tq rp fl al nl ml tl = some x) : Te148 cond Kst Kret cn aq nq mq tq rp fl al nl ml tl := by
  unfold Te148
  unfold p148 at h
  exact bif_split h (fun c0 h => bif_split h (fun c1 h => ret_at hR _ h (fun n => n) rfl rfl rfl (rn_tup ⟨(rn_agg ⟨(rn_int rfl), (rn_bool_tf rfl), (rn_bool_tf rfl), (rn_int rfl), trivial⟩), (rn_int rfl), trivial⟩) rfl (entl_bor (use_lo rfl) rfl rfl (entl_bor (use_lo rfl) rfl rfl entl_nil))) (fun c1 h => bif_split h (fun c2 h => ret_at hR _ h (fun n => n) rfl rfl rfl (rn_tup ⟨(rn_agg ⟨(rn_int rfl), (rn_bool_tf rfl), (rn_bool_tf rfl), (rn_int rfl), trivial⟩), (rn_int rfl), trivial⟩) rfl (entl_bor (use_lo rfl) rfl rfl (entl_bor (use_lo rfl) rfl rfl entl_nil))) (fun c2 h => bif_split h (fun c3 h => stop_at hS _ h (fun n => bif Nat.beq n 2 then 2 else bif Nat.beq n 3 then 3 else bif Nat.beq n 4 then 5 else bif Nat.beq n 5 then 7 else n) rfl rfl rfl ⟨(rn_loose (use_lo rfl) rfl rfl rfl), ⟨(rn_ptr (use_own rfl) rfl rfl), ⟨(rn_ptr (use_own rfl) rfl rfl), ⟨(rn_ptr (use_own rfl) rfl rfl), ⟨(rn_own (use_own rfl) rfl rfl), ⟨(rn_int rfl), trivial⟩⟩⟩⟩⟩⟩ rfl (entl_b (use_own rfl) rfl (by simp) (rb_cells ⟨(rn_str rfl), (rn_loose (use_lo rfl) rfl rfl rfl), (rn_int rfl), (rn_int rfl), trivial⟩) (entl_b (use_own rfl) rfl (by simp) (rb_cells ⟨(rn_int rfl), (rn_tf rfl), (rn_tf rfl), (rn_int rfl), trivial⟩) (entl_b (use_own rfl) rfl (by simp) (rb_cells ⟨(rn_int rfl), (rn_bool_tf rfl), (rn_bool_tf rfl), (rn_int rfl), trivial⟩) (entl_new (use_own rfl) rfl (Nat.le_of_eq rfl) (rcs_int (fun _ _ => rfl) rcs_nil) (entl_bor (use_lo rfl) rfl rfl (entl_bor (use_lo rfl) rfl rfl entl_nil))))))) (fun c3 h => no_some h)))) (fun c0 h => no_some h)
attribute [local irreducible] Int.subNatNat in
theorem b148_0 (cn : ByteArray) (aq nq mq : Nat) (tq : NI) (rp fl : Int) (al nl ml : Nat) (tl : NI) (Kst : KS) (Kret : KR) (x : St148 ⊕ Rt148) (hS : HS 2 400 ((I148 cn aq nq mq tq rp fl al nl ml tl)) Kst x) (hR : HR 2 400 ((V148 cn aq nq mq tq rp fl al nl ml tl)) (J148 cn aq nq mq tq rp fl al nl ml tl) Kret x) (x0 x1 : Int) (x2 x3 : Bool) (x4 : Int) (x5 : List Int) (h : q148 cn aq nq mq tq rp fl al nl ml tl (.h0 x0 x1 x2 x3 x4 x5) = some x) : T148_0 cond Kst Kret cn aq nq mq tq rp fl al nl ml tl x0 x1 x2 x3 x4 x5 := by
  unfold T148_0
  rw [q148] at h
  exact bif_split h (fun c0 h => bif_split h (fun c1 h => bif_split h (fun c2 h => bif_split h (fun c3 h => bif_split h (fun c4 h => cond_yes c1 (cond_yes c2 (bif_split h (fun c5 h => bif_split h (fun c6 h => stop_at hS _ h (fun n => bif Nat.beq n 2 then 2 else bif Nat.beq n 3 then 3 else bif Nat.beq n 4 then 4 else bif Nat.beq n 5 then 5 else n) rfl rfl rfl ⟨(rn_loose (use_lo rfl) rfl rfl rfl), ⟨(rn_ptr (use_own rfl) rfl rfl), ⟨(rn_ptr (use_own rfl) rfl rfl), ⟨(rn_ptr (use_own rfl) rfl rfl), ⟨(rn_own (use_own rfl) rfl rfl), ⟨(rn_int rfl), trivial⟩⟩⟩⟩⟩⟩ rfl (entl_b (use_own rfl) rfl (by simp) (rb_cells ⟨(rn_str rfl), (rn_loose (use_lo rfl) rfl rfl rfl), (rn_int rfl), (rn_int rfl), trivial⟩) (entl_b (use_own rfl) rfl (by simp) (rb_cells ⟨(rn_int rfl), (rn_tf rfl), (rn_tf rfl), (rn_int rfl), trivial⟩) (entl_b (use_own rfl) rfl (by simp) (rb_cells ⟨(rn_int rfl), (rn_bool rfl), (rn_bool rfl), (rn_int rfl), trivial⟩) (entl_new (use_own rfl) rfl (Nat.le_of_eq rfl) (rcs_int (fun _ _ => rfl) rcs_nil) (entl_bor (use_lo rfl) rfl rfl (entl_bor (use_lo rfl) rfl rfl entl_nil))))))) (fun c6 h => no_some h)) (fun c5 h => no_some h)))) (fun c4 h => ret_at hR _ h (fun n => n) rfl rfl rfl (rn_tup ⟨(rn_agg ⟨(rn_int rfl), (rn_bool_tf rfl), (rn_bool_tf rfl), (rn_int rfl), trivial⟩), (rn_int rfl), trivial⟩) rfl (entl_bor (use_lo rfl) rfl rfl (entl_bor (use_lo rfl) rfl rfl entl_nil)))) (fun c3 h => ret_at hR _ h (fun n => n) rfl rfl rfl (rn_tup ⟨(rn_agg ⟨(rn_int rfl), (rn_bool_tf rfl), (rn_bool_tf rfl), (rn_int rfl), trivial⟩), (rn_int rfl), trivial⟩) rfl (entl_bor (use_lo rfl) rfl rfl (entl_bor (use_lo rfl) rfl rfl entl_nil)))) (fun c2 h => no_some h)) (fun c1 h => no_some h)) (fun c0 h => ret_at hR _ h (fun n => n) rfl rfl rfl (rn_tup ⟨(rn_agg ⟨(rn_int rfl), (rn_bool rfl), (rn_bool rfl), (rn_int rfl), trivial⟩), (rn_int rfl), trivial⟩) rfl (entl_bor (use_lo rfl) rfl rfl (entl_bor (use_lo rfl) rfl rfl entl_nil)))
theorem a148 (cn : ByteArray) (aq nq mq : Nat) (tq : NI) (rp fl : Int) (al nl ml : Nat) (tl : NI) {r : Rt148} (h : Goes ((q148 cn aq nq mq tq rp fl al nl ml tl)) ((p148 cn aq nq mq tq rp fl al nl ml tl)) r) : CallR Try.prog 48 [.agg [.str cn, .loose ⟨0, 1, aq, 0⟩ nq, .int .i64 rp, .int .i64 fl], .loose ⟨1, 1, al, 0⟩ nl] [[(0, (false, .cols mq [.int .i64 tq])), (1, (false, .cols ml [.int .i64 tl]))]] 2 ((V148 cn aq nq mq tq rp fl al nl ml tl) r) ((J148 cn aq nq mq tq rp fl al nl ml tl) r) 400 ∧ ∃ F, Try.prog.funcs[48]? = some F ∧ F.body.isSome = true ∧ (F.name == "runtime.NumGoroutine") = false := by
  refine dec_calls (f := 48) (lo := 2) (hi := 400) (H := [[(0, (false, .cols mq [.int .i64 tq])), (1, (false, .cols ml [.int .i64 tl]))]]) (args := [.agg [.str cn, .loose ⟨0, 1, aq, 0⟩ nq, .int .i64 rp, .int .i64 fl], .loose ⟨1, 1, al, 0⟩ nl]) Try.envOk Try.mixed xB1_ok ((I148 cn aq nq mq tq rp fl al nl ml tl)) ((V148 cn aq nq mq tq rp fl al nl ml tl)) (J148 cn aq nq mq tq rp fl al nl ml tl) (fn := mkFn Try.f48) (ts := [1, 2, 4, 7, 8, 9]) (n := 400) rfl (by decide) (by simp) (names_of rfl) ?_ ?_ ?_ h
  · intro s; cases s <;> exact ⟨hd_ok _ _, by simp [I148], names_of rfl, Nat.le_of_ble_eq_true rfl⟩
  · intro Kst Kret x hS hR h
    exact Holds.eq (te148 cond Kst Kret cn aq nq mq tq rp fl al nl ml tl) (be148 cn aq nq mq tq rp fl al nl ml tl Kst Kret x hS hR h)
  · intro Kst Kret x hS hR s h
    cases s with
    | h0 x0 x1 x2 x3 x4 x5 => exact Holds.eq (t148_0 cond Kst Kret cn aq nq mq tq rp fl al nl ml tl x0 x1 x2 x3 x4 x5) (b148_0 cn aq nq mq tq rp fl al nl ml tl Kst Kret x hS hR x0 x1 x2 x3 x4 x5 h)
noncomputable abbrev w148 {α : Type} (g : ByteArray → Nat → Nat → Nat → (Nat → Int) → Int → Int → Nat → Nat → Nat → (Nat → Int) → α) (x : (ByteArray × (Nat × Nat × Nat × (Nat → Int) × Unit) × Int × Int × Unit) × (Nat × Nat × Nat × (Nat → Int) × Unit) × Unit) : α := g x.1.1 x.1.2.1.1 x.1.2.1.2.1 x.1.2.1.2.2.1 x.1.2.1.2.2.2.1 x.1.2.2.1 x.1.2.2.2.1 x.2.1.1 x.2.1.2.1 x.2.1.2.2.1 x.2.1.2.2.2.1
noncomputable def k148  : Con := ⟨48, [.agg [.plain (.str), .list [.int .i64], .plain (.int .i64), .plain (.int .i64)], .one (.list [.int .i64])], w148 (fun cn aq nq mq tq rp fl al nl ml tl => decide ((aq + nq ≤ mq ∧ nq ≤ 1000000) ∧ (al + nl ≤ ml ∧ nl ≤ 1000000))), w148 (fun cn aq nq mq tq rp fl al nl ml tl => (V148 cn aq nq mq tq rp fl al nl ml tl) (S.behS (S.cyE cn nq (fun j => tq (j + aq)) rp fl) nq (fun j => tq (j + aq)) rp fl nl (fun j => tl (j + al)))), w148 (fun cn aq nq mq tq rp fl al nl ml tl => (N148 cn aq nq mq tq rp fl al nl ml tl) (S.behS (S.cyE cn nq (fun j => tq (j + aq)) rp fl) nq (fun j => tq (j + aq)) rp fl nl (fun j => tl (j + al)))), fun _ _ => .dead⟩
theorem s148' (cn : ByteArray) (aq nq mq : Nat) (tq : Nat → Int) (rp fl : Int) (al nl ml : Nat) (tl : Nat → Int) (hp : (aq + nq ≤ mq ∧ nq ≤ 1000000) ∧ (al + nl ≤ ml ∧ nl ≤ 1000000)) (hn : 2 ≤ nq ∧ nq ≤ 20) (L : List Int) (hL : 2 ≤ L.length ∧ L.length ≤ 1000) : ∀ (k i : Nat), i + k = nl → (∀ j, j < i → -1099511627776 ≤ tl (j + al) ∧ tl (j + al) ≤ 1099511627776) → Comes (q148 cn aq nq mq tq rp fl al nl ml tl) (match S.behK nq (fun j => tq (j + aq)) fl L.length (S.at' L) (fun j => tl (j + al)) i with | (x1, x2, x3, x4) => .h0 (i : Int) x1 x2 x3 x4 L) (if S.all (fun j => decide (-1099511627776 ≤ tl (j + al) ∧ tl (j + al) ≤ 1099511627776)) nl = true then (match S.behK nq (fun j => tq (j + aq)) fl L.length (S.at' L) (fun j => tl (j + al)) nl with | (x1, x2, x3, x4) => (x1, x2, x3, x4, 0)) else (0, false, false, 0, 6)) := by
  obtain ⟨⟨hp1, hp2⟩, hp3, hp4⟩ := hp
  have hb := beh_b (n := nq) (t := (fun j => tq (j + aq))) (fl := fl) (l := S.at' L) (x := (fun j => tl (j + al))) hL.1
  intro k
  induction k with
  | zero =>
    intro i hi hj
    obtain rfl : nl = i := by omega
    rw [if_pos (all_iff.mpr fun j h => decide_eq_true (hj j h))]
    obtain ⟨x1, x2, x3, x4, ha⟩ : ∃ x1 x2 x3 x4, S.behK nq (fun j => tq (j + aq)) fl L.length (S.at' L) (fun j => tl (j + al)) nl = (x1, x2, x3, x4) := ⟨_, _, _, _, rfl⟩
    rw [ha]
    show Comes (q148 cn aq nq mq tq rp fl al nl ml tl) (.h0 (nl : Int) x1 x2 x3 x4 L) (x1, x2, x3, x4, 0)
    apply Comes.of
    show Goes _ _ _
    (first | rw [q148] | unfold q148)
    repeat' (first | with_reducible refine goes_if (fun h => ?_) (fun h => ?_) <;> (try simp only [SH] at h) | exact goes_none.mpr (by omega))
    all_goals first | (exfalso; omega) | exact goes_inr.mpr rfl
  | succ k ih =>
    intro i hi hj
    have hbi := hb i
    by_cases hc : -1099511627776 ≤ tl (i + al) ∧ tl (i + al) ≤ 1099511627776
    · have ih := ih (i + 1) (by omega) (fun j hlt => by
        rcases Nat.lt_or_eq_of_le (Nat.le_of_lt_succ hlt) with h2 | h2
        · exact hj j h2
        · subst h2; exact hc)
      have e1 : S.behK nq (fun j => tq (j + aq)) fl L.length (S.at' L) (fun j => tl (j + al)) (i + 1) = S.setS nq (fun j => tq (j + aq)) fl L.length (S.at' L) (S.behK nq (fun j => tq (j + aq)) fl L.length (S.at' L) (fun j => tl (j + al)) i) (tl (i + al)) := rfl
      rw [e1] at ih
      obtain ⟨x1, x2, x3, x4, ha⟩ : ∃ x1 x2 x3 x4, S.behK nq (fun j => tq (j + aq)) fl L.length (S.at' L) (fun j => tl (j + al)) i = (x1, x2, x3, x4) := ⟨_, _, _, _, rfl⟩
      rw [ha] at ih hbi ⊢
      show Comes (q148 cn aq nq mq tq rp fl al nl ml tl) (.h0 (i : Int) x1 x2 x3 x4 L) _
      have ih : Comes (q148 cn aq nq mq tq rp fl al nl ml tl) (.h0 (((i + 1 : Nat)) : Int) (S.setS nq (fun j => tq (j + aq)) fl L.length (S.at' L) (x1, x2, x3, x4) (tl (i + al))).1 (S.setS nq (fun j => tq (j + aq)) fl L.length (S.at' L) (x1, x2, x3, x4) (tl (i + al))).2.1 (S.setS nq (fun j => tq (j + aq)) fl L.length (S.at' L) (x1, x2, x3, x4) (tl (i + al))).2.2.1 (S.setS nq (fun j => tq (j + aq)) fl L.length (S.at' L) (x1, x2, x3, x4) (tl (i + al))).2.2.2 L) _ := ih
      dsimp only at hbi
      apply Comes.of
      show Goes _ _ _
      (first | rw [q148] | unfold q148)
      repeat' (first | with_reducible refine goes_if (fun h => ?_) (fun h => ?_) <;> (try simp only [SH] at h) | exact goes_none.mpr (by omega))
      all_goals first | (exfalso; omega) | exact ih
    · rw [if_neg (all_no (show i < nl by omega) (decide_eq_false hc))]
      obtain ⟨x1, x2, x3, x4, ha⟩ : ∃ x1 x2 x3 x4, S.behK nq (fun j => tq (j + aq)) fl L.length (S.at' L) (fun j => tl (j + al)) i = (x1, x2, x3, x4) := ⟨_, _, _, _, rfl⟩
      rw [ha]
      show Comes (q148 cn aq nq mq tq rp fl al nl ml tl) (.h0 (i : Int) x1 x2 x3 x4 L) _
      apply Comes.of
      show Goes _ _ _
      (first | rw [q148] | unfold q148)
      repeat' (first | with_reducible refine goes_if (fun h => ?_) (fun h => ?_) <;> (try simp only [SH] at h) | exact goes_none.mpr (by omega))
      all_goals first | (exfalso; omega) | exact goes_inr.mpr rfl
theorem s148 (cn : ByteArray) (aq nq mq : Nat) (tq : Nat → Int) (rp fl : Int) (al nl ml : Nat) (tl : Nat → Int) (hp : (aq + nq ≤ mq ∧ nq ≤ 1000000) ∧ (al + nl ≤ ml ∧ nl ≤ 1000000)) : Goes ((q148 cn aq nq mq tq rp fl al nl ml tl)) ((p148 cn aq nq mq tq rp fl al nl ml tl)) (S.behS (S.cyE cn nq (fun j => tq (j + aq)) rp fl) nq (fun j => tq (j + aq)) rp fl nl (fun j => tl (j + al))) := by
  unfold S.behS
  by_cases hy : (S.cyE cn nq (fun j => tq (j + aq)) rp fl) = 0
  · have hc := cy_ok hy
    have hst := stp_in hy
    have hl2 : 2 ≤ (S.stpL nq (fun j => tq (j + aq)) rp fl).length := by
      rw [stp_len]
      have : 1 ≤ nq * rp.toNat := Nat.mul_pos (by omega) (by omega)
      omega
    have hm := s148' cn aq nq mq tq rp fl al nl ml tl hp ⟨hc.1.1, hc.1.2⟩ (S.stpL nq (fun j => tq (j + aq)) rp fl) ⟨hl2, by omega⟩ nl 0 (Nat.zero_add _) (fun j hj => absurd hj (Nat.not_lt_zero j))
    have hm : Comes (q148 cn aq nq mq tq rp fl al nl ml tl) (.h0 0 0 false false 0 (S.stpL nq (fun j => tq (j + aq)) rp fl)) _ := hm
    obtain ⟨⟨hp1, hp2⟩, hp3, hp4⟩ := hp
    rw [if_pos hy]
    by_cases h5 : 500 < nl
    · have he : (S.setE nl (fun j => tl (j + al))) = 3 := if_pos h5
      rw [he, if_neg (by decide)]
      unfold p148
      simp only [hy]
      show Goes _ _ _
      repeat' (first | with_reducible refine goes_if (fun h => ?_) (fun h => ?_) <;> (try simp only [SH] at h) | exact goes_none.mpr (by omega))
      all_goals first | (exfalso; omega) | exact goes_inr.mpr rfl | (exfalso; simp_all; done)
    · have he : (S.setE nl (fun j => tl (j + al))) = if S.all (fun j => decide (-1099511627776 ≤ tl (j + al) ∧ tl (j + al) ≤ 1099511627776)) nl = true then 0 else 6 := if_neg h5
      have hm : Comes (q148 cn aq nq mq tq rp fl al nl ml tl) (.h0 0 0 false false 0 (S.stpL nq (fun j => tq (j + aq)) rp fl)) (if (S.setE nl (fun j => tl (j + al))) = 0 then (let a := S.behK nq (fun j => tq (j + aq)) fl (S.stpL nq (fun j => tq (j + aq)) rp fl).length (S.at' (S.stpL nq (fun j => tq (j + aq)) rp fl)) (fun j => tl (j + al)) nl; (a.1, a.2.1, a.2.2.1, a.2.2.2, 0)) else (0, false, false, 0, (S.setE nl (fun j => tl (j + al))))) := by
        refine Eq.mpr (congrArg (Comes _ _) ?_) hm
        rw [he]
        cases S.all (fun j => decide (-1099511627776 ≤ tl (j + al) ∧ tl (j + al) ≤ 1099511627776)) nl
        · rfl
        · rfl
      unfold p148
      simp only [hy]
      show Goes _ _ _
      repeat' (first | with_reducible refine goes_if (fun h => ?_) (fun h => ?_) <;> (try simp only [SH] at h) | exact goes_none.mpr (by omega))
      all_goals first | (exfalso; omega) | exact hm | (exfalso; simp_all; done)
  · obtain ⟨⟨hp1, hp2⟩, hp3, hp4⟩ := hp
    rw [if_neg hy]
    unfold p148
    generalize (S.cyE cn nq (fun j => tq (j + aq)) rp fl) = e at *
    show Goes _ _ _
    repeat' (first | with_reducible refine goes_if (fun h => ?_) (fun h => ?_) <;> (try simp only [SH] at h) | exact goes_none.mpr (by omega))
    all_goals first | (exfalso; omega) | exact goes_inr.mpr rfl | (exfalso; simp_all; done)
theorem k148_ok  : k148.ok Try.prog := by
  intro x hx
  obtain ⟨⟨cn, ⟨aq, nq, mq, tq, _⟩, rp, fl, _⟩, ⟨al, nl, ml, tl, _⟩, _⟩ := x
  obtain ⟨h1, h2⟩ := a148 cn aq nq mq tq rp fl al nl ml tl (s148 cn aq nq mq tq rp fl al nl ml tl (of_dec hx rfl))
  exact ⟨⟨400, (by decide : 2 + 1 + 0 ≤ 400), h1⟩, h2⟩
noncomputable def xFA (test : Bool → Prop → Prop → Prop) : Ext := consX test [k142, k149, k120, k135, k136, k24, k17, k148]
theorem xFA_ok  : ExtOk Try.prog (xFA cond) := consX_ok ⟨k142_ok, k149_ok, k120_ok, k135_ok, k136_ok, k24_ok, k17_ok, k148_ok, trivial⟩
theorem con_lit  {P : Program} {f : Nat} {ss : List Sh} {pre pre' : SsJ ss → Bool} {res res' : SsJ ss → PV} {new new' : SsJ ss → List Blk} {own own' : SsJ ss → Nat → Blk} (h : Con.ok P ⟨f, ss, pre, res, new, own⟩)
    (hp : ∀ x, pre' x = true → pre x = true ∧ res x = res' x ∧ new x = new' x ∧ own x = own' x) : Con.ok P ⟨f, ss, pre', res', new', own'⟩ := fun x hx => by
  obtain ⟨h1, h2, h3, h4⟩ := hp x hx
  have := h x h1
  simp only at this ⊢
  rw [h2, h3, h4] at this
  exact this
noncomputable def k116z  : Con := ⟨16, [.agg [.plain (.str), .list [.int .i64], .plain (.int .i64), .plain (.int .i64)]], fun (x : (ByteArray × (Nat × Nat × Nat × (Nat → Int) × Unit) × Int × Int × Unit) × Unit) => (fun (cn : ByteArray) (aq nq mq : Nat) (tq : Nat → Int) (rp : Int) (fl : Int) => decide ((aq + nq ≤ mq ∧ nq ≤ 1000000) ∧ (S.cyE cn nq (fun j => tq (j + aq)) rp fl) = 0)) x.1.1 x.1.2.1.1 x.1.2.1.2.1 x.1.2.1.2.2.1 x.1.2.1.2.2.2.1 x.1.2.2.1 x.1.2.2.2.1, fun (x : (ByteArray × (Nat × Nat × Nat × (Nat → Int) × Unit) × Int × Int × Unit) × Unit) => (fun (cn : ByteArray) (aq nq mq : Nat) (tq : Nat → Int) (rp : Int) (fl : Int) => .int .i64 0) x.1.1 x.1.2.1.1 x.1.2.1.2.1 x.1.2.1.2.2.1 x.1.2.1.2.2.2.1 x.1.2.2.1 x.1.2.2.2.1, fun (x : (ByteArray × (Nat × Nat × Nat × (Nat → Int) × Unit) × Int × Int × Unit) × Unit) => (fun (cn : ByteArray) (aq nq mq : Nat) (tq : Nat → Int) (rp : Int) (fl : Int) => []) x.1.1 x.1.2.1.1 x.1.2.1.2.1 x.1.2.1.2.2.1 x.1.2.1.2.2.2.1 x.1.2.2.1 x.1.2.2.2.1, fun _ _ => .dead⟩
theorem k116z_ok  : k116z.ok Try.prog := by
  refine con_lit k116_ok fun x hx => ?_
  obtain ⟨⟨cn, ⟨aq, nq, mq, tq, _⟩, rp, fl, _⟩, _⟩ := x
  have hp : (aq + nq ≤ mq ∧ nq ≤ 1000000) ∧ (S.cyE cn nq (fun j => tq (j + aq)) rp fl) = 0 := of_dec hx rfl
  refine ⟨decide_eq_true hp.1, ?_, rfl, rfl⟩
  show PV.int .i64 (S.cyE cn nq (fun j => tq (j + aq)) rp fl) = _
  rw [hp.2]
noncomputable def k149z  : Con := ⟨49, [.one (.list [.int .i64])], fun (x : (Nat × Nat × Nat × (Nat → Int) × Unit) × Unit) => (fun (al nl ml : Nat) (tl : Nat → Int) => decide ((al + nl ≤ ml ∧ nl ≤ 1000000) ∧ (S.setE nl (fun j => tl (j + al))) = 0)) x.1.1 x.1.2.1 x.1.2.2.1 x.1.2.2.2.1, fun (x : (Nat × Nat × Nat × (Nat → Int) × Unit) × Unit) => (fun (al nl ml : Nat) (tl : Nat → Int) => .int .i64 0) x.1.1 x.1.2.1 x.1.2.2.1 x.1.2.2.2.1, fun (x : (Nat × Nat × Nat × (Nat → Int) × Unit) × Unit) => (fun (al nl ml : Nat) (tl : Nat → Int) => []) x.1.1 x.1.2.1 x.1.2.2.1 x.1.2.2.2.1, fun _ _ => .dead⟩
theorem k149z_ok  : k149z.ok Try.prog := by
  refine con_lit k149_ok fun x hx => ?_
  obtain ⟨⟨al, nl, ml, tl, _⟩, _⟩ := x
  have hp : (al + nl ≤ ml ∧ nl ≤ 1000000) ∧ (S.setE nl (fun j => tl (j + al))) = 0 := of_dec hx rfl
  refine ⟨decide_eq_true hp.1, ?_, rfl, rfl⟩
  show PV.int .i64 (S.setE nl (fun j => tl (j + al))) = _
  rw [hp.2]
noncomputable def k135n  : Con := ⟨35, [.agg [.plain (.str), .list [.int .i64], .plain (.int .i64), .plain (.int .i64)]], fun (x : (ByteArray × (Nat × Nat × Nat × (Nat → Int) × Unit) × Int × Int × Unit) × Unit) => (fun (cn : ByteArray) (aq nq mq : Nat) (tq : Nat → Int) (rp : Int) (fl : Int) => false) x.1.1 x.1.2.1.1 x.1.2.1.2.1 x.1.2.1.2.2.1 x.1.2.1.2.2.2.1 x.1.2.2.1 x.1.2.2.2.1, fun (x : (ByteArray × (Nat × Nat × Nat × (Nat → Int) × Unit) × Int × Int × Unit) × Unit) => (fun (cn : ByteArray) (aq nq mq : Nat) (tq : Nat → Int) (rp : Int) (fl : Int) => .nils) x.1.1 x.1.2.1.1 x.1.2.1.2.1 x.1.2.1.2.2.1 x.1.2.1.2.2.2.1 x.1.2.2.1 x.1.2.2.2.1, fun (x : (ByteArray × (Nat × Nat × Nat × (Nat → Int) × Unit) × Int × Int × Unit) × Unit) => (fun (cn : ByteArray) (aq nq mq : Nat) (tq : Nat → Int) (rp : Int) (fl : Int) => []) x.1.1 x.1.2.1.1 x.1.2.1.2.1 x.1.2.1.2.2.1 x.1.2.1.2.2.2.1 x.1.2.2.1 x.1.2.2.2.1, fun _ _ => .dead⟩
theorem k135n_ok  : k135n.ok Try.prog := fun x hx => by
  obtain ⟨⟨cn, ⟨aq, nq, mq, tq, _⟩, rp, fl, _⟩, _⟩ := x
  exact Bool.noConfusion hx
noncomputable def xM0 (test : Bool → Prop → Prop → Prop) : Ext := consX test [k116z, k135, k149z, k25, k46, k47]
theorem xM0_ok  : ExtOk Try.prog (xM0 cond) := consX_ok ⟨k116z_ok, k135_ok, k149z_ok, k25_ok, k46_ok, k47_ok, trivial⟩
noncomputable def xM1 (test : Bool → Prop → Prop → Prop) : Ext := consX test [k116, k149, k135n]
theorem xM1_ok  : ExtOk Try.prog (xM1 cond) := consX_ok ⟨k116_ok, k149_ok, k135n_ok, trivial⟩
namespace S
def remK (n : Nat) (t : Nat → Int) (fl : Int) (nl : Nat) (l x : Nat → Int) : Nat → Int × Bool × Int × Bool
  | 0 => (0, false, 0, false)
  | i + 1 => let a := remK n t fl nl l x i
    let p := prS l a.1 (x i)
    if p = (nl : Int) then (0, true, fl, a.2.2.2) else if a.2.1 = true then (if ahdB n t fl a.2.2.1 (x i) = true then (p, true, x i, a.2.2.2) else (p, false, a.2.2.1, true)) else (p, false, a.2.2.1, a.2.2.2)
def remS (n : Nat) (t : Nat → Int) (fl rp : Int) (ns : Nat) (x : Nat → Int) : Int × Bool × Int × Bool × List Int :=
  let a := remK n t fl (stpL n t rp fl).length (fun j => at' (stpL n t rp fl) j) x ns
  (a.1, a.2.1, a.2.2.1, a.2.2.2, stpL n t rp fl)
end S
theorem rem_beh  {n nl : Nat} {t l x : Nat → Int} {fl : Int} : ∀ i, (S.remK n t fl nl l x i).1 = (S.behK n t fl nl l x i).1 ∧ (S.remK n t fl nl l x i).2.1 = (S.behK n t fl nl l x i).2.1 ∧ ((S.behK n t fl nl l x i).2.1 = true → (S.remK n t fl nl l x i).2.2.1 = (S.behK n t fl nl l x i).2.2.2) ∧ ((S.behK n t fl nl l x i).2.1 = false → (S.remK n t fl nl l x i).2.2.2 = (S.behK n t fl nl l x i).2.2.1)
  | 0 => ⟨rfl, rfl, fun _ => rfl, fun _ => rfl⟩
  | i + 1 => by
    obtain ⟨h1, h2, h3, h4⟩ := rem_beh (n := n) (nl := nl) (t := t) (l := l) (x := x) (fl := fl) i
    simp only [S.remK, S.behK, S.setS]
    generalize S.remK n t fl nl l x i = a at *
    generalize S.behK n t fl nl l x i = c at *
    obtain ⟨a1, a2, a3, a4⟩ := a
    obtain ⟨c1, c2, c3, c4⟩ := c
    simp only at h1 h2 h3 h4 ⊢
    subst h1 h2
    by_cases hp : S.prS l a1 (x i) = (nl : Int)
    · simp only [hp, if_true]; exact ⟨trivial, trivial, fun _ => trivial, fun h => Bool.noConfusion h⟩
    · simp only [hp, if_false]
      cases a2
      · have h4 := h4 rfl
        simp only [Bool.false_and, Bool.false_eq_true, if_false, Bool.or_false]
        exact ⟨trivial, trivial, fun h => h.elim, fun _ => h4⟩
      · have h3 := h3 rfl
        subst h3
        cases ha : S.ahdB n t fl a3 (x i)
        · simp only [if_true, Bool.true_and, Bool.false_eq_true, if_false, Bool.not_false, Bool.or_true]
          exact ⟨trivial, trivial, fun h => h.elim, fun _ => trivial⟩
        · simp only [if_true, Bool.true_and]
          exact ⟨trivial, trivial, fun _ => trivial, fun h => Bool.noConfusion h⟩
theorem rem_b  {n nl : Nat} {t l x : Nat → Int} {fl : Int} (h0 : 2 ≤ nl) (i : Nat) : 0 ≤ (S.remK n t fl nl l x i).1 ∧ (S.remK n t fl nl l x i).1 < (nl : Int) := by
  rw [(rem_beh i).1]
  exact beh_b h0 i
theorem maxN_snoc  {n : Nat} {t : Nat → Int} {fl : Int} (h : 0 < n) : S.maxN (fun j => bif Nat.blt j n then t j else fl) (n + 1 - 1) = max (S.maxN t (n - 1)) fl := by
  obtain ⟨m, rfl⟩ : ∃ m, n = m + 1 := ⟨n - 1, by omega⟩
  show max (S.maxN _ m) (bif Nat.blt (m + 1) (m + 1) then t (m + 1) else fl) = _
  have e1 : Nat.blt (m + 1) (m + 1) = false := by cases hb : Nat.blt (m + 1) (m + 1); rfl; have := lt_ok hb; omega
  rw [e1, cond_false]
  congr 1
  refine maxN_congr fun j hj => ?_
  have e2 : Nat.blt j (m + 1) = true := by rw [Nat.blt_eq]; omega
  rw [e2, cond_true]
theorem minN_snoc  {n : Nat} {t : Nat → Int} {fl : Int} (h : 0 < n) : S.minN (fun j => bif Nat.blt j n then t j else fl) (n + 1 - 1) = min (S.minN t (n - 1)) fl := by
  obtain ⟨m, rfl⟩ : ∃ m, n = m + 1 := ⟨n - 1, by omega⟩
  show min (S.minN _ m) (bif Nat.blt (m + 1) (m + 1) then t (m + 1) else fl) = _
  have e1 : Nat.blt (m + 1) (m + 1) = false := by cases hb : Nat.blt (m + 1) (m + 1); rfl; have := lt_ok hb; omega
  rw [e1, cond_false]
  congr 1
  refine minN_congr fun j hj => ?_
  have e2 : Nat.blt j (m + 1) = true := by rw [Nat.blt_eq]; omega
  rw [e2, cond_true]
inductive St146 where
  | h0 (x0 : Int) (x1 : Int) (x2 : Bool) (x3 : Int) (x4 : Bool) (x5 : List Int)
abbrev Rt146  := Int × Bool × Int × Bool × List Int
noncomputable def V146 (cn : ByteArray) (aq nq mq : Nat) (tq : NI) (rp fl : Int) (al nl ml : Nat) (tl : NI) (r : Rt146) : PV := PV.tup [PV.ptr (PA.mk (3) (0) (0) (0)), PV.int .i64 (0 : Int)]
noncomputable def N146 (cn : ByteArray) (aq nq mq : Nat) (tq : NI) (rp fl : Int) (al nl ml : Nat) (tl : NI) (r : Rt146) : List Blk := [Blk.cells [PV.str cn, PV.loose (PA.mk (0) (1) aq (0)) nq, PV.int .i64 rp, PV.int .i64 fl, PV.own (4) (1) (List.length r.2.2.2.2), PV.int .i64 r.1, PV.bool r.2.1, PV.int .i64 r.2.2.1, PV.bool r.2.2.2.1], Blk.cols (List.length r.2.2.2.2) [Col.int .i64 fun j => S.at' r.2.2.2.2 j]]
noncomputable def I146 (cn : ByteArray) (aq nq mq : Nat) (tq : NI) (rp fl : Int) (al nl ml : Nat) (tl : NI) : St146 → Hd
  | .h0 x0 x1 x2 x3 x4 x5 => ⟨hd Try.f46 0, [PV.ptr (PA.mk (2) (0) (0) (0)),
 PV.loose (PA.mk (1) (1) al (0)) nl, PV.int .i64 (↑nl : Int),
 PV.int .i64 x0], [[(2, (true, Blk.cells
 [PV.str cn, PV.loose (PA.mk (0) (1) aq (0)) nq,
 PV.int .i64 rp, PV.int .i64 fl,
 PV.own (3) (1) (List.length x5), PV.int .i64 x1, PV.bool x2,
 PV.int .i64 x3, PV.bool x4])), (3, (true, Blk.cols (List.length x5) [Col.int .i64 fun j => S.at' x5 j]))], [(0, (false, .cols mq [.int .i64 tq])), (1, (false, .cols ml [.int .i64 tl]))]], 4⟩
noncomputable def q146 (cn : ByteArray) (aq nq mq : Nat) (tq : NI) (rp fl : Int) (al nl ml : Nat) (tl : NI) : St146 → Option (St146 ⊕ Rt146) | .h0 x0 x1 x2 x3 x4 x5 => bif (decide (x0 < (↑nl : Int))) then (bif (decide ((0 : Int) ≤ x0 ∧ x0 < (↑nl : Int))) then (bif (decide (Int.toNat x0 + al < ml)) then (bif (decide ((0 : Int) ≤ x1 ∧ x1 < (↑(List.length x5) : Int))) then (bif (decide (Int.toNat x1 < List.length x5)) then (bif (tl (Int.toNat x0 + al) == S.at' x5 (Int.toNat x1)) then (bif (lim .i64 (x1 + 1)) then (bif (x1 + 1 == (↑(List.length x5) : Int)) then (bif (lim .i64 (x0 + 1)) then (some (.inl (.h0 (x0 + 1) ((0 : Int)) (true) (fl) (x4) (x5)))) else (none)) else (bif (x2) then (bif (decide (aq + nq ≤ mq ∧ nq ≤ 1000000)) then (bif (decide (nq + 1 ≤ 1000000)) then (bif (decide (nq ≤ nq)) then (bif (lim .i64 ((↑nq : Int) - 1)) then (bif (decide ((0 : Int) ≤ (↑nq : Int) - 1 ∧ (↑nq : Int) - 1 < (↑nq : Int))) then (bif (decide (Int.toNat ((↑nq : Int) - 1) + aq < mq)) then (bif (decide (fl > tq (Int.toNat ((↑nq : Int) - 1) + aq))) then (bif (decide (tl (Int.toNat x0 + al) ≥ x3)) then (bif (decide (0 + (nq + 1) ≤ nq + 1 ∧ nq + 1 ≤ 1000000 ∧ 0 < nq + 1)) then (bif (decide (tl (Int.toNat x0 + al) ≤ S.maxN (fun j => bif Nat.blt j nq then tq (j + aq) else fl) (nq + 1 - 1))) then (bif (lim .i64 (x0 + 1)) then (some (.inl (.h0 (x0 + 1) (x1 + 1) (x2) (tl (Int.toNat x0 + al)) (x4) (x5)))) else (none)) else (bif (lim .i64 (x0 + 1)) then (some (.inl (.h0 (x0 + 1) (x1 + 1) (false) (x3) (true) (x5)))) else (none))) else (none)) else (bif (lim .i64 (x0 + 1)) then (some (.inl (.h0 (x0 + 1) (x1 + 1) (false) (x3) (true) (x5)))) else (none))) else (bif (decide (tl (Int.toNat x0 + al) ≤ x3)) then (bif (decide (0 + (nq + 1) ≤ nq + 1 ∧ nq + 1 ≤ 1000000 ∧ 0 < nq + 1)) then (bif (decide (tl (Int.toNat x0 + al) ≥ S.minN (fun j => bif Nat.blt j nq then tq (j + aq) else fl) (nq + 1 - 1))) then (bif (lim .i64 (x0 + 1)) then (some (.inl (.h0 (x0 + 1) (x1 + 1) (x2) (tl (Int.toNat x0 + al)) (x4) (x5)))) else (none)) else (bif (lim .i64 (x0 + 1)) then (some (.inl (.h0 (x0 + 1) (x1 + 1) (false) (x3) (true) (x5)))) else (none))) else (none)) else (bif (lim .i64 (x0 + 1)) then (some (.inl (.h0 (x0 + 1) (x1 + 1) (false) (x3) (true) (x5)))) else (none)))) else (none)) else (none)) else (none)) else (none)) else (none)) else (none)) else (bif (lim .i64 (x0 + 1)) then (some (.inl (.h0 (x0 + 1) (x1 + 1) (x2) (x3) (x4) (x5)))) else (none)))) else (none)) else (bif (decide ((0 : Int) ≤ 0 ∧ (0 : Int) < (↑(List.length x5) : Int))) then (bif (decide (0 < List.length x5)) then (bif (tl (Int.toNat x0 + al) == S.at' x5 (0)) then (bif ((1 : Int) == (↑(List.length x5) : Int)) then (bif (lim .i64 (x0 + 1)) then (some (.inl (.h0 (x0 + 1) ((0 : Int)) (true) (fl) (x4) (x5)))) else (none)) else (bif (x2) then (bif (decide (aq + nq ≤ mq ∧ nq ≤ 1000000)) then (bif (decide (nq + 1 ≤ 1000000)) then (bif (decide (nq ≤ nq)) then (bif (lim .i64 ((↑nq : Int) - 1)) then (bif (decide ((0 : Int) ≤ (↑nq : Int) - 1 ∧ (↑nq : Int) - 1 < (↑nq : Int))) then (bif (decide (Int.toNat ((↑nq : Int) - 1) + aq < mq)) then (bif (decide (fl > tq (Int.toNat ((↑nq : Int) - 1) + aq))) then (bif (decide (tl (Int.toNat x0 + al) ≥ x3)) then (bif (decide (0 + (nq + 1) ≤ nq + 1 ∧ nq + 1 ≤ 1000000 ∧ 0 < nq + 1)) then (bif (decide (tl (Int.toNat x0 + al) ≤ S.maxN (fun j => bif Nat.blt j nq then tq (j + aq) else fl) (nq + 1 - 1))) then (bif (lim .i64 (x0 + 1)) then (some (.inl (.h0 (x0 + 1) ((1 : Int)) (x2) (tl (Int.toNat x0 + al)) (x4) (x5)))) else (none)) else (bif (lim .i64 (x0 + 1)) then (some (.inl (.h0 (x0 + 1) ((1 : Int)) (false) (x3) (true) (x5)))) else (none))) else (none)) else (bif (lim .i64 (x0 + 1)) then (some (.inl (.h0 (x0 + 1) ((1 : Int)) (false) (x3) (true) (x5)))) else (none))) else (bif (decide (tl (Int.toNat x0 + al) ≤ x3)) then (bif (decide (0 + (nq + 1) ≤ nq + 1 ∧ nq + 1 ≤ 1000000 ∧ 0 < nq + 1)) then (bif (decide (tl (Int.toNat x0 + al) ≥ S.minN (fun j => bif Nat.blt j nq then tq (j + aq) else fl) (nq + 1 - 1))) then (bif (lim .i64 (x0 + 1)) then (some (.inl (.h0 (x0 + 1) ((1 : Int)) (x2) (tl (Int.toNat x0 + al)) (x4) (x5)))) else (none)) else (bif (lim .i64 (x0 + 1)) then (some (.inl (.h0 (x0 + 1) ((1 : Int)) (false) (x3) (true) (x5)))) else (none))) else (none)) else (bif (lim .i64 (x0 + 1)) then (some (.inl (.h0 (x0 + 1) ((1 : Int)) (false) (x3) (true) (x5)))) else (none)))) else (none)) else (none)) else (none)) else (none)) else (none)) else (none)) else (bif (lim .i64 (x0 + 1)) then (some (.inl (.h0 (x0 + 1) ((1 : Int)) (x2) (x3) (x4) (x5)))) else (none)))) else (bif ((0 : Int) == (↑(List.length x5) : Int)) then (bif (lim .i64 (x0 + 1)) then (some (.inl (.h0 (x0 + 1) ((0 : Int)) (true) (fl) (x4) (x5)))) else (none)) else (bif (x2) then (bif (decide (aq + nq ≤ mq ∧ nq ≤ 1000000)) then (bif (decide (nq + 1 ≤ 1000000)) then (bif (decide (nq ≤ nq)) then (bif (lim .i64 ((↑nq : Int) - 1)) then (bif (decide ((0 : Int) ≤ (↑nq : Int) - 1 ∧ (↑nq : Int) - 1 < (↑nq : Int))) then (bif (decide (Int.toNat ((↑nq : Int) - 1) + aq < mq)) then (bif (decide (fl > tq (Int.toNat ((↑nq : Int) - 1) + aq))) then (bif (decide (tl (Int.toNat x0 + al) ≥ x3)) then (bif (decide (0 + (nq + 1) ≤ nq + 1 ∧ nq + 1 ≤ 1000000 ∧ 0 < nq + 1)) then (bif (decide (tl (Int.toNat x0 + al) ≤ S.maxN (fun j => bif Nat.blt j nq then tq (j + aq) else fl) (nq + 1 - 1))) then (bif (lim .i64 (x0 + 1)) then (some (.inl (.h0 (x0 + 1) ((0 : Int)) (x2) (tl (Int.toNat x0 + al)) (x4) (x5)))) else (none)) else (bif (lim .i64 (x0 + 1)) then (some (.inl (.h0 (x0 + 1) ((0 : Int)) (false) (x3) (true) (x5)))) else (none))) else (none)) else (bif (lim .i64 (x0 + 1)) then (some (.inl (.h0 (x0 + 1) ((0 : Int)) (false) (x3) (true) (x5)))) else (none))) else (bif (decide (tl (Int.toNat x0 + al) ≤ x3)) then (bif (decide (0 + (nq + 1) ≤ nq + 1 ∧ nq + 1 ≤ 1000000 ∧ 0 < nq + 1)) then (bif (decide (tl (Int.toNat x0 + al) ≥ S.minN (fun j => bif Nat.blt j nq then tq (j + aq) else fl) (nq + 1 - 1))) then (bif (lim .i64 (x0 + 1)) then (some (.inl (.h0 (x0 + 1) ((0 : Int)) (x2) (tl (Int.toNat x0 + al)) (x4) (x5)))) else (none)) else (bif (lim .i64 (x0 + 1)) then (some (.inl (.h0 (x0 + 1) ((0 : Int)) (false) (x3) (true) (x5)))) else (none))) else (none)) else (bif (lim .i64 (x0 + 1)) then (some (.inl (.h0 (x0 + 1) ((0 : Int)) (false) (x3) (true) (x5)))) else (none)))) else (none)) else (none)) else (none)) else (none)) else (none)) else (none)) else (bif (lim .i64 (x0 + 1)) then (some (.inl (.h0 (x0 + 1) ((0 : Int)) (x2) (x3) (x4) (x5)))) else (none))))) else (none)) else (none))) else (none)) else (none)) else (none)) else (none)) else (some (.inr (x1, x2, x3, x4, x5)))
noncomputable def p146 (cn : ByteArray) (aq nq mq : Nat) (tq : NI) (rp fl : Int) (al nl ml : Nat) (tl : NI) : Option (St146 ⊕ Rt146) := bif (decide ((aq + nq ≤ mq ∧ nq ≤ 1000000) ∧ S.cyE cn nq (fun j => tq (j + aq)) rp fl = 0)) then (bif (decide ((al + nl ≤ ml ∧ nl ≤ 1000000) ∧ (S.setE nl fun j => tl (j + al)) = 0)) then (bif (decide (aq + nq ≤ mq ∧ nq ≤ 20 ∧ (0 : Int) ≤ rp ∧ rp ≤ 9)) then (some (.inl (.h0 ((0 : Int)) ((0 : Int)) (false) ((0 : Int)) (false) (S.stpL nq (fun j => tq (j + aq)) rp fl)))) else (none)) else (none)) else (none)
def Te146 (test : TT) (Kst : KS) (Kret : KR) (cn : ByteArray) (aq nq mq : Nat) (tq : NI) (rp fl : Int) (al nl ml : Nat) (tl : NI) : Prop := test (decide ((aq + nq ≤ mq ∧ nq ≤ 1000000) ∧ S.cyE cn nq (fun j => tq (j + aq)) rp fl = 0)) (test (decide ((al + nl ≤ ml ∧ nl ≤ 1000000) ∧ (S.setE nl fun j => tl (j + al)) = 0)) (test (decide (aq + nq ≤ mq ∧ nq ≤ 20 ∧ (0 : Int) ≤ rp ∧ rp ≤ 9)) (Kst (hd Try.f46 0) ([PV.ptr (PA.mk (7) (0) (0) (0)), PV.loose (PA.mk (1) (1) al (0)) nl, PV.int .i64 (↑nl : Int), PV.int .i64 (0 : Int)]) ([[(1, false, Blk.cols ml [Col.int .i64 tl]), (0, false, Blk.cols mq [Col.int .i64 tq]), (7, true, Blk.cells [PV.str cn, PV.loose (PA.mk (0) (1) aq (0)) nq, PV.int .i64 rp, PV.int .i64 fl, PV.own (6) (1) (List.length (S.stpL nq (fun j => tq (j + aq)) rp fl)), PV.int .i64 (0 : Int), PV.tf false, PV.int .i64 (0 : Int), PV.tf false]), (6, true, Blk.cols (List.length (S.stpL nq (fun j => tq (j + aq)) rp fl)) [Col.int .i64 fun j => S.at' (S.stpL nq (fun j => tq (j + aq)) rp fl) j])]]) (8)) (False)) (False)) (False)
theorem te146 (Kst : KS) (Kret : KR) (cn : ByteArray) (aq nq mq : Nat) (tq : NI) (rp fl : Int) (al nl ml : Nat) (tl : NI) : run cond Try.env true (xM0 cond) true 400 ⟨46, [.cd (mkFn Try.f46).body], argT 0 [.agg [.str cn, .loose ⟨0, 1, aq, 0⟩ nq, .int .i64 rp, .int .i64 fl], .loose ⟨1, 1, al, 0⟩ nl], [[], [(0, (false, .cols mq [.int .i64 tq])), (1, (false, .cols ml [.int .i64 tl]))]], 2⟩ (proj 2 [8, 26, 27, 28] Kst Kret) =
  Te146 cond Kst Kret cn aq nq mq tq rp fl al nl ml tl := by kernel_rfl
noncomputable abbrev u146_0_0 (al nl : Nat) (x0 : Int) := ([PV.ptr (PA.mk (2) (0) (0) (0)), PV.loose (PA.mk (1) (1) al (0)) nl, PV.int IntKind.i64 (↑nl : Int), PV.int IntKind.i64 (x0 + (1 : Int))])
noncomputable abbrev u146_0_1 (x5 : List Int) := (3, true, Blk.cols (List.length x5) [Col.int IntKind.i64 fun j => S.at' x5 j])
noncomputable abbrev u146_0_2 (cn : ByteArray) (aq nq mq : Nat) (tq : Nat → Int) (rp fl : Int) (ml : Nat) (tl : Nat → Int) (x1 x3 : Int) (x5 : List Int) := ([[(1, false, Blk.cols ml [Col.int IntKind.i64 tl]), (0, false, Blk.cols mq [Col.int IntKind.i64 tq]), (2, true, Blk.cells [PV.str cn, PV.loose (PA.mk (0) (1) aq (0)) nq, PV.int IntKind.i64 rp, PV.int IntKind.i64 fl, PV.own (3) (1) (List.length x5), PV.int IntKind.i64 (x1 + (1 : Int)), PV.tf false, PV.int IntKind.i64 x3, PV.tf true]), (u146_0_1 x5)]])
noncomputable abbrev u146_0_3 (cn : ByteArray) (aq nq mq : Nat) (tq : Nat → Int) (rp fl : Int) (ml : Nat) (tl : Nat → Int) (x3 : Int) (x5 : List Int) := ([[(1, false, Blk.cols ml [Col.int IntKind.i64 tl]), (0, false, Blk.cols mq [Col.int IntKind.i64 tq]), (2, true, Blk.cells [PV.str cn, PV.loose (PA.mk (0) (1) aq (0)) nq, PV.int IntKind.i64 rp, PV.int IntKind.i64 fl, PV.own (3) (1) (List.length x5), PV.int IntKind.i64 (1 : Int), PV.tf false, PV.int IntKind.i64 x3, PV.tf true]), (u146_0_1 x5)]])
noncomputable abbrev u146_0_4 (cn : ByteArray) (aq nq mq : Nat) (tq : Nat → Int) (rp fl : Int) (ml : Nat) (tl : Nat → Int) (x3 : Int) (x5 : List Int) := ([[(1, false, Blk.cols ml [Col.int IntKind.i64 tl]), (0, false, Blk.cols mq [Col.int IntKind.i64 tq]), (2, true, Blk.cells [PV.str cn, PV.loose (PA.mk (0) (1) aq (0)) nq, PV.int IntKind.i64 rp, PV.int IntKind.i64 fl, PV.own (3) (1) (List.length x5), PV.int IntKind.i64 (0 : Int), PV.tf false, PV.int IntKind.i64 x3, PV.tf true]), (u146_0_1 x5)]])
noncomputable abbrev u146_0_5 (cn : ByteArray) (aq nq mq : Nat) (tq : Nat → Int) (rp fl : Int) (ml : Nat) (tl : Nat → Int) (x1 : Int) (x2 : Bool) (x3 : Int) (x4 : Bool) (x5 : List Int) := ([[(1, false, Blk.cols ml [Col.int IntKind.i64 tl]), (0, false, Blk.cols mq [Col.int IntKind.i64 tq]), (2, true, Blk.cells [PV.str cn, PV.loose (PA.mk (0) (1) aq (0)) nq, PV.int IntKind.i64 rp, PV.int IntKind.i64 fl, PV.own (3) (1) (List.length x5), PV.int IntKind.i64 (x1 + (1 : Int)), PV.bool x2, PV.int IntKind.i64 x3, PV.bool x4]), (u146_0_1 x5)]])
noncomputable abbrev u146_0_6 (cn : ByteArray) (aq nq mq : Nat) (tq : Nat → Int) (rp fl : Int) (ml : Nat) (tl : Nat → Int) (x2 : Bool) (x3 : Int) (x4 : Bool) (x5 : List Int) := ([[(1, false, Blk.cols ml [Col.int IntKind.i64 tl]), (0, false, Blk.cols mq [Col.int IntKind.i64 tq]), (2, true, Blk.cells [PV.str cn, PV.loose (PA.mk (0) (1) aq (0)) nq, PV.int IntKind.i64 rp, PV.int IntKind.i64 fl, PV.own (3) (1) (List.length x5), PV.int IntKind.i64 (1 : Int), PV.bool x2, PV.int IntKind.i64 x3, PV.bool x4]), (u146_0_1 x5)]])
noncomputable abbrev u146_0_7 (cn : ByteArray) (aq nq mq : Nat) (tq : Nat → Int) (rp fl : Int) (ml : Nat) (tl : Nat → Int) (x2 : Bool) (x3 : Int) (x4 : Bool) (x5 : List Int) := ([[(1, false, Blk.cols ml [Col.int IntKind.i64 tl]), (0, false, Blk.cols mq [Col.int IntKind.i64 tq]), (2, true, Blk.cells [PV.str cn, PV.loose (PA.mk (0) (1) aq (0)) nq, PV.int IntKind.i64 rp, PV.int IntKind.i64 fl, PV.own (3) (1) (List.length x5), PV.int IntKind.i64 (0 : Int), PV.bool x2, PV.int IntKind.i64 x3, PV.bool x4]), (u146_0_1 x5)]])
noncomputable abbrev u146_0_8 (cn : ByteArray) (aq nq mq : Nat) (tq : Nat → Int) (rp fl : Int) (ml : Nat) (tl : Nat → Int) (x4 : Bool) (x5 : List Int) := ([[(1, false, Blk.cols ml [Col.int IntKind.i64 tl]), (0, false, Blk.cols mq [Col.int IntKind.i64 tq]), (2, true, Blk.cells [PV.str cn, PV.loose (PA.mk (0) (1) aq (0)) nq, PV.int IntKind.i64 rp, PV.int IntKind.i64 fl, PV.own (3) (1) (List.length x5), PV.int IntKind.i64 (0 : Int), PV.tf true, PV.int IntKind.i64 fl, PV.bool x4]), (u146_0_1 x5)]])
noncomputable abbrev u146_0_9 (nq : Nat) := decide (0 + (nq + 1) ≤ nq + 1 ∧ nq + 1 ≤ 1000000 ∧ 0 < nq + 1)
noncomputable abbrev u146_0_10 (ml : Nat) (tl : Nat → Int) := (1, false, Blk.cols ml [Col.int IntKind.i64 tl])
noncomputable abbrev u146_0_11 (mq : Nat) (tq : Nat → Int) := (0, false, Blk.cols mq [Col.int IntKind.i64 tq])
def T146_0 (test : TT) (Kst : KS) (Kret : KR) (cn : ByteArray) (aq nq mq : Nat) (tq : NI) (rp fl : Int) (al nl ml : Nat) (tl : NI) (x0 x1 : Int) (x2 : Bool) (x3 : Int) (x4 : Bool) (x5 : List Int) : Prop := test (decide (x0 < (↑nl : Int))) (test (decide ((0 : Int) ≤ x0 ∧ x0 < (↑nl : Int))) (test (decide (Int.toNat x0 + al < ml)) (test (decide ((0 : Int) ≤ x1 ∧ x1 < (↑(List.length x5) : Int))) (test (decide (Int.toNat x1 < List.length x5)) (test (tl (Int.toNat x0 + al) == S.at' x5 (Int.toNat x1)) (test (lim .i64 (x1 + 1)) (test (x1 + 1 == (↑(List.length x5) : Int)) (test (lim .i64 (x0 + 1)) (Kst (hd Try.f46 0) (u146_0_0 al nl x0) (u146_0_8 cn aq nq mq tq rp fl ml tl x4 x5) (4)) (False)) (test (x2) (test (decide (aq + nq ≤ mq ∧ nq ≤ 1000000)) (test (decide (nq + 1 ≤ 1000000)) (test (decide (nq ≤ nq)) (test (lim .i64 ((↑nq : Int) - 1)) (test (decide ((0 : Int) ≤ (↑nq : Int) - 1 ∧ (↑nq : Int) - 1 < (↑nq : Int))) (test (decide (Int.toNat ((↑nq : Int) - 1) + aq < mq)) (test (decide (fl > tq (Int.toNat ((↑nq : Int) - 1) + aq))) (test (decide (tl (Int.toNat x0 + al) ≥ x3)) (test (u146_0_9 nq) (test (decide (tl (Int.toNat x0 + al) ≤ S.maxN (fun j => bif Nat.blt j nq then tq (j + aq) else fl) (nq + 1 - 1))) (test (lim .i64 (x0 + 1)) (Kst (hd Try.f46 0) (u146_0_0 al nl x0) ([[(u146_0_10 ml tl), (u146_0_11 mq tq), (2, true, Blk.cells [PV.str cn, PV.loose (PA.mk (0) (1) aq (0)) nq, PV.int .i64 rp, PV.int .i64 fl, PV.own (3) (1) (List.length x5), PV.int .i64 (x1 + 1), PV.bool x2, PV.int .i64 (tl (Int.toNat x0 + al)), PV.bool x4]), (u146_0_1 x5)]]) (10)) (False)) (test (x2) (test (lim .i64 (x0 + 1)) (Kst (hd Try.f46 0) (u146_0_0 al nl x0) (u146_0_2 cn aq nq mq tq rp fl ml tl x1 x3 x5) (10)) (False)) (test (lim .i64 (x0 + 1)) (Kst (hd Try.f46 0) (u146_0_0 al nl x0) (u146_0_5 cn aq nq mq tq rp fl ml tl x1 x2 x3 x4 x5) (10)) (False)))) (False)) (test (x2) (test (lim .i64 (x0 + 1)) (Kst (hd Try.f46 0) (u146_0_0 al nl x0) (u146_0_2 cn aq nq mq tq rp fl ml tl x1 x3 x5) (9)) (False)) (test (lim .i64 (x0 + 1)) (Kst (hd Try.f46 0) (u146_0_0 al nl x0) (u146_0_5 cn aq nq mq tq rp fl ml tl x1 x2 x3 x4 x5) (9)) (False)))) (test (decide (tl (Int.toNat x0 + al) ≤ x3)) (test (u146_0_9 nq) (test (decide (tl (Int.toNat x0 + al) ≥ S.minN (fun j => bif Nat.blt j nq then tq (j + aq) else fl) (nq + 1 - 1))) (test (lim .i64 (x0 + 1)) (Kst (hd Try.f46 0) (u146_0_0 al nl x0) ([[(u146_0_10 ml tl), (u146_0_11 mq tq), (2, true, Blk.cells [PV.str cn, PV.loose (PA.mk (0) (1) aq (0)) nq, PV.int .i64 rp, PV.int .i64 fl, PV.own (3) (1) (List.length x5), PV.int .i64 (x1 + 1), PV.bool x2, PV.int .i64 (tl (Int.toNat x0 + al)), PV.bool x4]), (u146_0_1 x5)]]) (10)) (False)) (test (x2) (test (lim .i64 (x0 + 1)) (Kst (hd Try.f46 0) (u146_0_0 al nl x0) (u146_0_2 cn aq nq mq tq rp fl ml tl x1 x3 x5) (10)) (False)) (test (lim .i64 (x0 + 1)) (Kst (hd Try.f46 0) (u146_0_0 al nl x0) (u146_0_5 cn aq nq mq tq rp fl ml tl x1 x2 x3 x4 x5) (10)) (False)))) (False)) (test (x2) (test (lim .i64 (x0 + 1)) (Kst (hd Try.f46 0) (u146_0_0 al nl x0) (u146_0_2 cn aq nq mq tq rp fl ml tl x1 x3 x5) (9)) (False)) (test (lim .i64 (x0 + 1)) (Kst (hd Try.f46 0) (u146_0_0 al nl x0) (u146_0_5 cn aq nq mq tq rp fl ml tl x1 x2 x3 x4 x5) (9)) (False))))) (False)) (False)) (False)) (False)) (False)) (False)) (test (x2) (test (lim .i64 (x0 + 1)) (Kst (hd Try.f46 0) (u146_0_0 al nl x0) (u146_0_2 cn aq nq mq tq rp fl ml tl x1 x3 x5) (4)) (False)) (test (lim .i64 (x0 + 1)) (Kst (hd Try.f46 0) (u146_0_0 al nl x0) (u146_0_5 cn aq nq mq tq rp fl ml tl x1 x2 x3 x4 x5) (4)) (False))))) (False)) (test (decide ((0 : Int) ≤ 0 ∧ (0 : Int) < (↑(List.length x5) : Int))) (test (decide (0 < List.length x5)) (test (tl (Int.toNat x0 + al) == S.at' x5 (0)) (test ((1 : Int) == (↑(List.length x5) : Int)) (test (lim .i64 (x0 + 1)) (Kst (hd Try.f46 0) (u146_0_0 al nl x0) (u146_0_8 cn aq nq mq tq rp fl ml tl x4 x5) (4)) (False)) (test (x2) (test (decide (aq + nq ≤ mq ∧ nq ≤ 1000000)) (test (decide (nq + 1 ≤ 1000000)) (test (decide (nq ≤ nq)) (test (lim .i64 ((↑nq : Int) - 1)) (test (decide ((0 : Int) ≤ (↑nq : Int) - 1 ∧ (↑nq : Int) - 1 < (↑nq : Int))) (test (decide (Int.toNat ((↑nq : Int) - 1) + aq < mq)) (test (decide (fl > tq (Int.toNat ((↑nq : Int) - 1) + aq))) (test (decide (tl (Int.toNat x0 + al) ≥ x3)) (test (u146_0_9 nq) (test (decide (tl (Int.toNat x0 + al) ≤ S.maxN (fun j => bif Nat.blt j nq then tq (j + aq) else fl) (nq + 1 - 1))) (test (lim .i64 (x0 + 1)) (Kst (hd Try.f46 0) (u146_0_0 al nl x0) ([[(u146_0_10 ml tl), (u146_0_11 mq tq), (2, true, Blk.cells [PV.str cn, PV.loose (PA.mk (0) (1) aq (0)) nq, PV.int .i64 rp, PV.int .i64 fl, PV.own (3) (1) (List.length x5), PV.int .i64 (1 : Int), PV.bool x2, PV.int .i64 (tl (Int.toNat x0 + al)), PV.bool x4]), (u146_0_1 x5)]]) (10)) (False)) (test (x2) (test (lim .i64 (x0 + 1)) (Kst (hd Try.f46 0) (u146_0_0 al nl x0) (u146_0_3 cn aq nq mq tq rp fl ml tl x3 x5) (10)) (False)) (test (lim .i64 (x0 + 1)) (Kst (hd Try.f46 0) (u146_0_0 al nl x0) (u146_0_6 cn aq nq mq tq rp fl ml tl x2 x3 x4 x5) (10)) (False)))) (False)) (test (x2) (test (lim .i64 (x0 + 1)) (Kst (hd Try.f46 0) (u146_0_0 al nl x0) (u146_0_3 cn aq nq mq tq rp fl ml tl x3 x5) (9)) (False)) (test (lim .i64 (x0 + 1)) (Kst (hd Try.f46 0) (u146_0_0 al nl x0) (u146_0_6 cn aq nq mq tq rp fl ml tl x2 x3 x4 x5) (9)) (False)))) (test (decide (tl (Int.toNat x0 + al) ≤ x3)) (test (u146_0_9 nq) (test (decide (tl (Int.toNat x0 + al) ≥ S.minN (fun j => bif Nat.blt j nq then tq (j + aq) else fl) (nq + 1 - 1))) (test (lim .i64 (x0 + 1)) (Kst (hd Try.f46 0) (u146_0_0 al nl x0) ([[(u146_0_10 ml tl), (u146_0_11 mq tq), (2, true, Blk.cells [PV.str cn, PV.loose (PA.mk (0) (1) aq (0)) nq, PV.int .i64 rp, PV.int .i64 fl, PV.own (3) (1) (List.length x5), PV.int .i64 (1 : Int), PV.bool x2, PV.int .i64 (tl (Int.toNat x0 + al)), PV.bool x4]), (u146_0_1 x5)]]) (10)) (False)) (test (x2) (test (lim .i64 (x0 + 1)) (Kst (hd Try.f46 0) (u146_0_0 al nl x0) (u146_0_3 cn aq nq mq tq rp fl ml tl x3 x5) (10)) (False)) (test (lim .i64 (x0 + 1)) (Kst (hd Try.f46 0) (u146_0_0 al nl x0) (u146_0_6 cn aq nq mq tq rp fl ml tl x2 x3 x4 x5) (10)) (False)))) (False)) (test (x2) (test (lim .i64 (x0 + 1)) (Kst (hd Try.f46 0) (u146_0_0 al nl x0) (u146_0_3 cn aq nq mq tq rp fl ml tl x3 x5) (9)) (False)) (test (lim .i64 (x0 + 1)) (Kst (hd Try.f46 0) (u146_0_0 al nl x0) (u146_0_6 cn aq nq mq tq rp fl ml tl x2 x3 x4 x5) (9)) (False))))) (False)) (False)) (False)) (False)) (False)) (False)) (test (x2) (test (lim .i64 (x0 + 1)) (Kst (hd Try.f46 0) (u146_0_0 al nl x0) (u146_0_3 cn aq nq mq tq rp fl ml tl x3 x5) (4)) (False)) (test (lim .i64 (x0 + 1)) (Kst (hd Try.f46 0) (u146_0_0 al nl x0) (u146_0_6 cn aq nq mq tq rp fl ml tl x2 x3 x4 x5) (4)) (False))))) (test ((0 : Int) == (↑(List.length x5) : Int)) (test (lim .i64 (x0 + 1)) (Kst (hd Try.f46 0) (u146_0_0 al nl x0) (u146_0_8 cn aq nq mq tq rp fl ml tl x4 x5) (4)) (False)) (test (x2) (test (decide (aq + nq ≤ mq ∧ nq ≤ 1000000)) (test (decide (nq + 1 ≤ 1000000)) (test (decide (nq ≤ nq)) (test (lim .i64 ((↑nq : Int) - 1)) (test (decide ((0 : Int) ≤ (↑nq : Int) - 1 ∧ (↑nq : Int) - 1 < (↑nq : Int))) (test (decide (Int.toNat ((↑nq : Int) - 1) + aq < mq)) (test (decide (fl > tq (Int.toNat ((↑nq : Int) - 1) + aq))) (test (decide (tl (Int.toNat x0 + al) ≥ x3)) (test (u146_0_9 nq) (test (decide (tl (Int.toNat x0 + al) ≤ S.maxN (fun j => bif Nat.blt j nq then tq (j + aq) else fl) (nq + 1 - 1))) (test (lim .i64 (x0 + 1)) (Kst (hd Try.f46 0) (u146_0_0 al nl x0) ([[(u146_0_10 ml tl), (u146_0_11 mq tq), (2, true, Blk.cells [PV.str cn, PV.loose (PA.mk (0) (1) aq (0)) nq, PV.int .i64 rp, PV.int .i64 fl, PV.own (3) (1) (List.length x5), PV.int .i64 (0 : Int), PV.bool x2, PV.int .i64 (tl (Int.toNat x0 + al)), PV.bool x4]), (u146_0_1 x5)]]) (10)) (False)) (test (x2) (test (lim .i64 (x0 + 1)) (Kst (hd Try.f46 0) (u146_0_0 al nl x0) (u146_0_4 cn aq nq mq tq rp fl ml tl x3 x5) (10)) (False)) (test (lim .i64 (x0 + 1)) (Kst (hd Try.f46 0) (u146_0_0 al nl x0) (u146_0_7 cn aq nq mq tq rp fl ml tl x2 x3 x4 x5) (10)) (False)))) (False)) (test (x2) (test (lim .i64 (x0 + 1)) (Kst (hd Try.f46 0) (u146_0_0 al nl x0) (u146_0_4 cn aq nq mq tq rp fl ml tl x3 x5) (9)) (False)) (test (lim .i64 (x0 + 1)) (Kst (hd Try.f46 0) (u146_0_0 al nl x0) (u146_0_7 cn aq nq mq tq rp fl ml tl x2 x3 x4 x5) (9)) (False)))) (test (decide (tl (Int.toNat x0 + al) ≤ x3)) (test (u146_0_9 nq) (test (decide (tl (Int.toNat x0 + al) ≥ S.minN (fun j => bif Nat.blt j nq then tq (j + aq) else fl) (nq + 1 - 1))) (test (lim .i64 (x0 + 1)) (Kst (hd Try.f46 0) (u146_0_0 al nl x0) ([[(u146_0_10 ml tl), (u146_0_11 mq tq), (2, true, Blk.cells [PV.str cn, PV.loose (PA.mk (0) (1) aq (0)) nq, PV.int .i64 rp, PV.int .i64 fl, PV.own (3) (1) (List.length x5), PV.int .i64 (0 : Int), PV.bool x2, PV.int .i64 (tl (Int.toNat x0 + al)), PV.bool x4]), (u146_0_1 x5)]]) (10)) (False)) (test (x2) (test (lim .i64 (x0 + 1)) (Kst (hd Try.f46 0) (u146_0_0 al nl x0) (u146_0_4 cn aq nq mq tq rp fl ml tl x3 x5) (10)) (False)) (test (lim .i64 (x0 + 1)) (Kst (hd Try.f46 0) (u146_0_0 al nl x0) (u146_0_7 cn aq nq mq tq rp fl ml tl x2 x3 x4 x5) (10)) (False)))) (False)) (test (x2) (test (lim .i64 (x0 + 1)) (Kst (hd Try.f46 0) (u146_0_0 al nl x0) (u146_0_4 cn aq nq mq tq rp fl ml tl x3 x5) (9)) (False)) (test (lim .i64 (x0 + 1)) (Kst (hd Try.f46 0) (u146_0_0 al nl x0) (u146_0_7 cn aq nq mq tq rp fl ml tl x2 x3 x4 x5) (9)) (False))))) (False)) (False)) (False)) (False)) (False)) (False)) (test (x2) (test (lim .i64 (x0 + 1)) (Kst (hd Try.f46 0) (u146_0_0 al nl x0) (u146_0_4 cn aq nq mq tq rp fl ml tl x3 x5) (4)) (False)) (test (lim .i64 (x0 + 1)) (Kst (hd Try.f46 0) (u146_0_0 al nl x0) (u146_0_7 cn aq nq mq tq rp fl ml tl x2 x3 x4 x5) (4)) (False)))))) (False)) (False))) (False)) (False)) (False)) (False)) (Kret (PV.tup [PV.ptr (PA.mk (2) (0) (0) (0)), PV.int .i64 (0 : Int)]) ([[(u146_0_10 ml tl), (u146_0_11 mq tq), (2, true, Blk.cells [PV.str cn, PV.loose (PA.mk (0) (1) aq (0)) nq, PV.int .i64 rp, PV.int .i64 fl, PV.own (3) (1) (List.length x5), PV.int .i64 x1, PV.bool x2, PV.int .i64 x3, PV.bool x4]), (u146_0_1 x5)]]) (4))
theorem t146_0 (Kst : KS) (Kret : KR) (cn : ByteArray) (aq nq mq : Nat) (tq : NI) (rp fl : Int) (al nl ml : Nat) (tl : NI) (x0 x1 : Int) (x2 : Bool) (x3 : Int) (x4 : Bool) (x5 : List Int) : run cond Try.env true (xM0 cond) true 400 ⟨46, hd Try.f46 0, zipT [8, 26, 27, 28] [PV.ptr (PA.mk (2) (0) (0) (0)),
 PV.loose (PA.mk (1) (1) al (0)) nl, PV.int .i64 (↑nl : Int),
 PV.int .i64 x0], [[(2, (true, Blk.cells
 [PV.str cn, PV.loose (PA.mk (0) (1) aq (0)) nq,
 PV.int .i64 rp, PV.int .i64 fl,
 PV.own (3) (1) (List.length x5), PV.int .i64 x1, PV.bool x2,
 PV.int .i64 x3, PV.bool x4])), (3, (true, Blk.cols (List.length x5) [Col.int .i64 fun j => S.at' x5 j]))], [(0, (false, .cols mq [.int .i64 tq])), (1, (false, .cols ml [.int .i64 tl]))]], 4⟩ (proj 2 [8, 26, 27, 28] Kst Kret) =
  T146_0 cond Kst Kret cn aq nq mq tq rp fl al nl ml tl x0 x1 x2 x3 x4 x5 := by kernel_rfl
noncomputable abbrev J146 (cn : ByteArray) (aq nq mq : Nat) (tq : NI) (rp : Int) (fl : Int) (al nl ml : Nat) (tl : NI) : Rt146 → Heap := fun r => [newL (2 + 1) ((N146 cn aq nq mq tq rp fl al nl ml tl) r) ++ [(0, (false, .cols mq [.int .i64 tq])), (1, (false, .cols ml [.int .i64 tl]))]]
attribute [local irreducible] Int.subNatNat in
theorem be146 (cn : ByteArray) (aq nq mq : Nat) (tq : NI) (rp fl : Int) (al nl ml : Nat) (tl : NI) (Kst : KS) (Kret : KR) (x : St146 ⊕ Rt146) (hS : HS 2 400 ((I146 cn aq nq mq tq rp fl al nl ml tl)) Kst x) (hR : HR 2 400 ((V146 cn aq nq mq tq rp fl al nl ml tl)) (J146 cn aq nq mq tq rp fl al nl ml tl) Kret x) (h : p146 cn aq nq mq tq rp fl al nl ml tl = some x) : Te146 cond Kst Kret cn aq nq mq tq rp fl al nl ml tl := by
  unfold Te146
  unfold p146 at h
  exact bif_split h (fun c0 h => bif_split h (fun c1 h => bif_split h (fun c2 h => stop_at hS _ h (fun n => bif Nat.beq n 2 then 7 else bif Nat.beq n 3 then 6 else n) rfl rfl rfl ⟨(rn_ptr (use_own rfl) rfl rfl), ⟨(rn_loose (use_lo rfl) rfl rfl rfl), ⟨(rn_int rfl), ⟨(rn_int rfl), trivial⟩⟩⟩⟩ rfl (entl_b (use_own rfl) rfl (by simp) (rb_cells ⟨(rn_str rfl), (rn_loose (use_lo rfl) rfl rfl rfl), (rn_int rfl), (rn_int rfl), (rn_own (use_own rfl) rfl rfl), (rn_int rfl), (rn_bool_tf rfl), (rn_int rfl), (rn_bool_tf rfl), trivial⟩) (entl_new (use_own rfl) rfl (Nat.le_of_eq rfl) (rcs_int (fun _ _ => rfl) rcs_nil) (entl_bor (use_lo rfl) rfl rfl (entl_bor (use_lo rfl) rfl rfl entl_nil))))) (fun c2 h => no_some h)) (fun c1 h => no_some h)) (fun c0 h => no_some h)
attribute [local irreducible] Int.subNatNat in
theorem b146_0 (cn : ByteArray) (aq nq mq : Nat) (tq : NI) (rp fl : Int) (al nl ml : Nat) (tl : NI) (Kst : KS) (Kret : KR) (x : St146 ⊕ Rt146) (hS : HS 2 400 ((I146 cn aq nq mq tq rp fl al nl ml tl)) Kst x) (hR : HR 2 400 ((V146 cn aq nq mq tq rp fl al nl ml tl)) (J146 cn aq nq mq tq rp fl al nl ml tl) Kret x) (x0 x1 : Int) (x2 : Bool) (x3 : Int) (x4 : Bool) (x5 : List Int) (h : q146 cn aq nq mq tq rp fl al nl ml tl (.h0 x0 x1 x2 x3 x4 x5) = some x) : T146_0 cond Kst Kret cn aq nq mq tq rp fl al nl ml tl x0 x1 x2 x3 x4 x5 := by
  unfold T146_0
  rw [q146] at h
  refine bif_split h (fun c0 h => bif_split h (fun c1 h => bif_split h (fun c2 h => bif_split h (fun c3 h => bif_split h (fun c4 h => bif_split h (fun c5 h => bif_split h (fun c6 h => bif_split h (fun c7 h => bif_split h (fun c8 h => ?_) (fun c8 h => ?_)) (fun c7 h => bif_split h (fun c8 h => bif_split h (fun c9 h => bif_split h (fun c10 h => bif_split h (fun c11 h => bif_split h (fun c12 h => bif_split h (fun c13 h => bif_split h (fun c14 h => bif_split h (fun c15 h => bif_split h (fun c16 h => bif_split h (fun c17 h => bif_split h (fun c18 h => bif_split h (fun c19 h => ?_) (fun c19 h => ?_)) (fun c18 h => cond_yes c8 (bif_split h (fun c19 h => ?_) (fun c19 h => ?_)))) (fun c17 h => ?_)) (fun c16 h => cond_yes c8 (bif_split h (fun c17 h => ?_) (fun c17 h => ?_)))) (fun c15 h => bif_split h (fun c16 h => bif_split h (fun c17 h => bif_split h (fun c18 h => bif_split h (fun c19 h => ?_) (fun c19 h => ?_)) (fun c18 h => cond_yes c8 (bif_split h (fun c19 h => ?_) (fun c19 h => ?_)))) (fun c17 h => ?_)) (fun c16 h => cond_yes c8 (bif_split h (fun c17 h => ?_) (fun c17 h => ?_))))) (fun c14 h => ?_)) (fun c13 h => ?_)) (fun c12 h => ?_)) (fun c11 h => ?_)) (fun c10 h => ?_)) (fun c9 h => ?_)) (fun c8 h => cond_no c8 (bif_split h (fun c9 h => ?_) (fun c9 h => ?_))))) (fun c6 h => ?_)) (fun c5 h => bif_split h (fun c6 h => bif_split h (fun c7 h => bif_split h (fun c8 h => bif_split h (fun c9 h => bif_split h (fun c10 h => ?_) (fun c10 h => ?_)) (fun c9 h => bif_split h (fun c10 h => bif_split h (fun c11 h => bif_split h (fun c12 h => bif_split h (fun c13 h => bif_split h (fun c14 h => bif_split h (fun c15 h => bif_split h (fun c16 h => bif_split h (fun c17 h => bif_split h (fun c18 h => bif_split h (fun c19 h => bif_split h (fun c20 h => bif_split h (fun c21 h => ?_) (fun c21 h => ?_)) (fun c20 h => cond_yes c10 (bif_split h (fun c21 h => ?_) (fun c21 h => ?_)))) (fun c19 h => ?_)) (fun c18 h => cond_yes c10 (bif_split h (fun c19 h => ?_) (fun c19 h => ?_)))) (fun c17 h => bif_split h (fun c18 h => bif_split h (fun c19 h => bif_split h (fun c20 h => bif_split h (fun c21 h => ?_) (fun c21 h => ?_)) (fun c20 h => cond_yes c10 (bif_split h (fun c21 h => ?_) (fun c21 h => ?_)))) (fun c19 h => ?_)) (fun c18 h => cond_yes c10 (bif_split h (fun c19 h => ?_) (fun c19 h => ?_))))) (fun c16 h => ?_)) (fun c15 h => ?_)) (fun c14 h => ?_)) (fun c13 h => ?_)) (fun c12 h => ?_)) (fun c11 h => ?_)) (fun c10 h => cond_no c10 (bif_split h (fun c11 h => ?_) (fun c11 h => ?_))))) (fun c8 h => bif_split h (fun c9 h => bif_split h (fun c10 h => ?_) (fun c10 h => ?_)) (fun c9 h => bif_split h (fun c10 h => bif_split h (fun c11 h => bif_split h (fun c12 h => bif_split h (fun c13 h => bif_split h (fun c14 h => bif_split h (fun c15 h => bif_split h (fun c16 h => bif_split h (fun c17 h => bif_split h (fun c18 h => bif_split h (fun c19 h => bif_split h (fun c20 h => bif_split h (fun c21 h => ?_) (fun c21 h => ?_)) (fun c20 h => cond_yes c10 (bif_split h (fun c21 h => ?_) (fun c21 h => ?_)))) (fun c19 h => ?_)) (fun c18 h => cond_yes c10 (bif_split h (fun c19 h => ?_) (fun c19 h => ?_)))) (fun c17 h => bif_split h (fun c18 h => bif_split h (fun c19 h => bif_split h (fun c20 h => bif_split h (fun c21 h => ?_) (fun c21 h => ?_)) (fun c20 h => cond_yes c10 (bif_split h (fun c21 h => ?_) (fun c21 h => ?_)))) (fun c19 h => ?_)) (fun c18 h => cond_yes c10 (bif_split h (fun c19 h => ?_) (fun c19 h => ?_))))) (fun c16 h => ?_)) (fun c15 h => ?_)) (fun c14 h => ?_)) (fun c13 h => ?_)) (fun c12 h => ?_)) (fun c11 h => ?_)) (fun c10 h => cond_no c10 (bif_split h (fun c11 h => ?_) (fun c11 h => ?_)))))) (fun c7 h => ?_)) (fun c6 h => ?_))) (fun c4 h => ?_)) (fun c3 h => ?_)) (fun c2 h => ?_)) (fun c1 h => ?_)) (fun c0 h => ret_at hR _ h (fun n => bif Nat.beq n 3 then 2 else bif Nat.beq n 4 then 3 else n) rfl rfl rfl (rn_tup ⟨(rn_ptr (use_own rfl) rfl rfl), (rn_int rfl), trivial⟩) rfl (entl_b (use_own rfl) rfl (by simp) (rb_cells ⟨(rn_str rfl), (rn_loose (use_lo rfl) rfl rfl rfl), (rn_int rfl), (rn_int rfl), (rn_own (use_own rfl) rfl rfl), (rn_int rfl), (rn_bool rfl), (rn_int rfl), (rn_bool rfl), trivial⟩) (entl_new (use_own rfl) rfl (Nat.le_of_eq rfl) (rcs_int (fun _ _ => rfl) rcs_nil) (entl_bor (use_lo rfl) rfl rfl (entl_bor (use_lo rfl) rfl rfl entl_nil)))))
  all_goals first
    | exact no_some h
    | exact stop_at hS _ h (fun n => bif Nat.beq n 2 then 2 else bif Nat.beq n 3 then 3 else n) rfl rfl rfl ⟨(rn_ptr (use_own rfl) rfl rfl), ⟨(rn_loose (use_lo rfl) rfl rfl rfl), ⟨(rn_int rfl), ⟨(rn_int rfl), trivial⟩⟩⟩⟩ rfl (entl_b (use_own rfl) rfl (by simp) (rb_cells ⟨(rn_str rfl), (rn_loose (use_lo rfl) rfl rfl rfl), (rn_int rfl), (rn_int rfl), (rn_own (use_own rfl) rfl rfl), (rn_int rfl), (rn_bool_tf rfl), (rn_int rfl), (rn_bool_tf rfl), trivial⟩) (entl_new (use_own rfl) rfl (Nat.le_of_eq rfl) (rcs_int (fun _ _ => rfl) rcs_nil) (entl_bor (use_lo rfl) rfl rfl (entl_bor (use_lo rfl) rfl rfl entl_nil))))
    | exact stop_at hS _ h (fun n => bif Nat.beq n 2 then 2 else bif Nat.beq n 3 then 3 else n) rfl rfl rfl ⟨(rn_ptr (use_own rfl) rfl rfl), ⟨(rn_loose (use_lo rfl) rfl rfl rfl), ⟨(rn_int rfl), ⟨(rn_int rfl), trivial⟩⟩⟩⟩ rfl (entl_b (use_own rfl) rfl (by simp) (rb_cells ⟨(rn_str rfl), (rn_loose (use_lo rfl) rfl rfl rfl), (rn_int rfl), (rn_int rfl), (rn_own (use_own rfl) rfl rfl), (rn_int rfl), (rn_bool rfl), (rn_int rfl), (rn_bool rfl), trivial⟩) (entl_new (use_own rfl) rfl (Nat.le_of_eq rfl) (rcs_int (fun _ _ => rfl) rcs_nil) (entl_bor (use_lo rfl) rfl rfl (entl_bor (use_lo rfl) rfl rfl entl_nil))))
    | exact stop_at hS _ h (fun n => bif Nat.beq n 2 then 2 else bif Nat.beq n 3 then 3 else n) rfl rfl rfl ⟨(rn_ptr (use_own rfl) rfl rfl), ⟨(rn_loose (use_lo rfl) rfl rfl rfl), ⟨(rn_int rfl), ⟨(rn_int rfl), trivial⟩⟩⟩⟩ rfl (entl_b (use_own rfl) rfl (by simp) (rb_cells ⟨(rn_str rfl), (rn_loose (use_lo rfl) rfl rfl rfl), (rn_int rfl), (rn_int rfl), (rn_own (use_own rfl) rfl rfl), (rn_int rfl), (rn_bool_tf rfl), (rn_int rfl), (rn_bool rfl), trivial⟩) (entl_new (use_own rfl) rfl (Nat.le_of_eq rfl) (rcs_int (fun _ _ => rfl) rcs_nil) (entl_bor (use_lo rfl) rfl rfl (entl_bor (use_lo rfl) rfl rfl entl_nil))))
theorem a146 (cn : ByteArray) (aq nq mq : Nat) (tq : NI) (rp fl : Int) (al nl ml : Nat) (tl : NI) {r : Rt146} (h : Goes ((q146 cn aq nq mq tq rp fl al nl ml tl)) ((p146 cn aq nq mq tq rp fl al nl ml tl)) r) : CallR Try.prog 46 [.agg [.str cn, .loose ⟨0, 1, aq, 0⟩ nq, .int .i64 rp, .int .i64 fl], .loose ⟨1, 1, al, 0⟩ nl] [[(0, (false, .cols mq [.int .i64 tq])), (1, (false, .cols ml [.int .i64 tl]))]] 2 ((V146 cn aq nq mq tq rp fl al nl ml tl) r) ((J146 cn aq nq mq tq rp fl al nl ml tl) r) 400 ∧ ∃ F, Try.prog.funcs[46]? = some F ∧ F.body.isSome = true ∧ (F.name == "runtime.NumGoroutine") = false := by
  refine dec_calls (f := 46) (lo := 2) (hi := 400) (H := [[(0, (false, .cols mq [.int .i64 tq])), (1, (false, .cols ml [.int .i64 tl]))]]) (args := [.agg [.str cn, .loose ⟨0, 1, aq, 0⟩ nq, .int .i64 rp, .int .i64 fl], .loose ⟨1, 1, al, 0⟩ nl]) Try.envOk Try.mixed xM0_ok ((I146 cn aq nq mq tq rp fl al nl ml tl)) ((V146 cn aq nq mq tq rp fl al nl ml tl)) (J146 cn aq nq mq tq rp fl al nl ml tl) (fn := mkFn Try.f46) (ts := [8, 26, 27, 28]) (n := 400) rfl (by decide) (by simp) (names_of rfl) ?_ ?_ ?_ h
  · intro s; cases s <;> exact ⟨hd_ok _ _, by simp [I146], names_of rfl, Nat.le_of_ble_eq_true rfl⟩
  · intro Kst Kret x hS hR h
    exact Holds.eq (te146 Kst Kret cn aq nq mq tq rp fl al nl ml tl) (be146 cn aq nq mq tq rp fl al nl ml tl Kst Kret x hS hR h)
  · intro Kst Kret x hS hR s h
    cases s with
    | h0 x0 x1 x2 x3 x4 x5 => exact Holds.eq (t146_0 Kst Kret cn aq nq mq tq rp fl al nl ml tl x0 x1 x2 x3 x4 x5) (b146_0 cn aq nq mq tq rp fl al nl ml tl Kst Kret x hS hR x0 x1 x2 x3 x4 x5 h)
noncomputable abbrev w146 {α : Type} (g : ByteArray → Nat → Nat → Nat → (Nat → Int) → Int → Int → Nat → Nat → Nat → (Nat → Int) → α) (x : (ByteArray × (Nat × Nat × Nat × (Nat → Int) × Unit) × Int × Int × Unit) × (Nat × Nat × Nat × (Nat → Int) × Unit) × Unit) : α := g x.1.1 x.1.2.1.1 x.1.2.1.2.1 x.1.2.1.2.2.1 x.1.2.1.2.2.2.1 x.1.2.2.1 x.1.2.2.2.1 x.2.1.1 x.2.1.2.1 x.2.1.2.2.1 x.2.1.2.2.2.1
noncomputable def k146  : Con := ⟨46, [.agg [.plain (.str), .list [.int .i64], .plain (.int .i64), .plain (.int .i64)], .one (.list [.int .i64])], w146 (fun cn aq nq mq tq rp fl al nl ml tl => decide (((aq + nq ≤ mq ∧ nq ≤ 1000000) ∧ al + nl ≤ ml ∧ nl ≤ 1000000) ∧ (S.cyE cn nq (fun j => tq (j + aq)) rp fl) = 0 ∧ (S.setE nl (fun j => tl (j + al))) = 0)), w146 (fun cn aq nq mq tq rp fl al nl ml tl => (V146 cn aq nq mq tq rp fl al nl ml tl) (S.remS nq (fun j => tq (j + aq)) fl rp nl (fun j => tl (j + al)))), w146 (fun cn aq nq mq tq rp fl al nl ml tl => (N146 cn aq nq mq tq rp fl al nl ml tl) (S.remS nq (fun j => tq (j + aq)) fl rp nl (fun j => tl (j + al)))), fun _ _ => .dead⟩
set_option maxHeartbeats 8000000 in
theorem s146' (cn : ByteArray) (aq nq mq : Nat) (tq : Nat → Int) (rp fl : Int) (al nl ml : Nat) (tl : Nat → Int) (hp : ((aq + nq ≤ mq ∧ nq ≤ 1000000) ∧ al + nl ≤ ml ∧ nl ≤ 1000000) ∧ (S.cyE cn nq (fun j => tq (j + aq)) rp fl) = 0 ∧ (S.setE nl (fun j => tl (j + al))) = 0) : ∀ (k i : Nat), i + k = nl → Comes (q146 cn aq nq mq tq rp fl al nl ml tl) (match S.remK nq (fun j => tq (j + aq)) fl (S.stpL nq (fun j => tq (j + aq)) rp fl).length (fun j => S.at' (S.stpL nq (fun j => tq (j + aq)) rp fl) j) (fun j => tl (j + al)) i with | (x1, x2, x3, x4) => .h0 (i : Int) x1 x2 x3 x4 (S.stpL nq (fun j => tq (j + aq)) rp fl)) (S.remS nq (fun j => tq (j + aq)) fl rp nl (fun j => tl (j + al))) := by
  obtain ⟨⟨⟨hp1, hp2⟩, hp3, hp4⟩, hy, hs⟩ := hp
  have hc := cy_ok hy
  have hst := stp_in hy
  have hl2 : 2 ≤ (S.stpL nq (fun j => tq (j + aq)) rp fl).length := by
    rw [stp_len]
    have : 1 ≤ nq * rp.toNat := Nat.mul_pos (by omega) (by omega)
    omega
  have hb := rem_b (n := nq) (t := (fun j => tq (j + aq))) (fl := fl) (l := fun j => S.at' (S.stpL nq (fun j => tq (j + aq)) rp fl) j) (x := (fun j => tl (j + al))) hl2
  unfold S.remS
  generalize (S.stpL nq (fun j => tq (j + aq)) rp fl) = L at *
  intro k
  induction k with
  | zero =>
    intro i hi
    obtain rfl : nl = i := by omega
    obtain ⟨x1, x2, x3, x4, ha⟩ : ∃ x1 x2 x3 x4, S.remK nq (fun j => tq (j + aq)) fl L.length (fun j => S.at' L j) (fun j => tl (j + al)) nl = (x1, x2, x3, x4) := ⟨_, _, _, _, rfl⟩
    rw [ha]
    show Comes (q146 cn aq nq mq tq rp fl al nl ml tl) (.h0 (nl : Int) x1 x2 x3 x4 L) (x1, x2, x3, x4, L)
    apply Comes.of
    rw [q146]
    exact goes_no (decide_eq_false (by omega)) (goes_inr.mpr rfl)
  | succ k ih =>
    intro i hi
    have hbi := hb i
    have ih := ih (i + 1) (by omega)
    simp only [S.remK] at ih
    obtain ⟨x1, x2, x3, x4, ha⟩ : ∃ x1 x2 x3 x4, S.remK nq (fun j => tq (j + aq)) fl L.length (fun j => S.at' L j) (fun j => tl (j + al)) i = (x1, x2, x3, x4) := ⟨_, _, _, _, rfl⟩
    rw [ha] at ih hbi ⊢
    show Comes (q146 cn aq nq mq tq rp fl al nl ml tl) (.h0 (i : Int) x1 x2 x3 x4 L) _
    dsimp only at hbi ih
    have em := maxN_snoc (n := nq) (t := (fun j => tq (j + aq))) (fl := fl) (by omega)
    have en := minN_snoc (n := nq) (t := (fun j => tq (j + aq))) (fl := fl) (by omega)
    have e1 : ((nq : Int) - 1).toNat = nq - 1 := by omega
    generalize hR : (S.remK nq (fun j => tq (j + aq)) fl L.length (fun j => S.at' L j) (fun j => tl (j + al)) nl) = R at *
    have hA : S.ahdB nq (fun j => tq (j + aq)) fl x3 (tl (i + al)) = if tq (nq - 1 + aq) < fl then decide (x3 ≤ tl (i + al) ∧ tl (i + al) ≤ max fl (S.maxN (fun j => tq (j + aq)) (nq - 1))) else decide (tl (i + al) ≤ x3 ∧ min fl (S.minN (fun j => tq (j + aq)) (nq - 1)) ≤ tl (i + al)) := rfl
    rw [hA] at ih
    clear hA
    unfold S.prS at ih
    generalize S.maxN (fun j => tq (j + aq)) (nq - 1) = ma at *
    generalize S.minN (fun j => tq (j + aq)) (nq - 1) = mi at *
    apply Comes.of
    rw [q146]
    simp only [Int.toNat_natCast, em, en, e1]
    cases x2
    all_goals
      repeat' (first | with_reducible refine goes_if (fun h => ?_) (fun h => ?_) <;> (try simp only [SH] at h) | exact goes_none.mpr (by omega))
      all_goals first
        | (exfalso; omega)
        | (refine Eq.mpr (congrArg (fun s => Comes _ s _) ?_) ih
           simp only [Bool.false_eq_true, if_false, if_true]
           (repeat' split) <;> first | rfl | (exfalso; omega) | (exfalso; simp_all; omega) | (exfalso; simp_all; done))
theorem s146 (cn : ByteArray) (aq nq mq : Nat) (tq : Nat → Int) (rp fl : Int) (al nl ml : Nat) (tl : Nat → Int) (hp : ((aq + nq ≤ mq ∧ nq ≤ 1000000) ∧ al + nl ≤ ml ∧ nl ≤ 1000000) ∧ (S.cyE cn nq (fun j => tq (j + aq)) rp fl) = 0 ∧ (S.setE nl (fun j => tl (j + al))) = 0) : Goes ((q146 cn aq nq mq tq rp fl al nl ml tl)) ((p146 cn aq nq mq tq rp fl al nl ml tl)) (S.remS nq (fun j => tq (j + aq)) fl rp nl (fun j => tl (j + al))) := by
  have hm := s146' cn aq nq mq tq rp fl al nl ml tl hp nl 0 (Nat.zero_add _)
  have hm : Comes (q146 cn aq nq mq tq rp fl al nl ml tl) (.h0 0 0 false 0 false (S.stpL nq (fun j => tq (j + aq)) rp fl)) _ := hm
  obtain ⟨⟨⟨hp1, hp2⟩, hp3, hp4⟩, hy, hs⟩ := hp
  have hc := cy_ok hy
  unfold p146
  refine goes_ok (decide_eq_true ⟨⟨hp1, hp2⟩, hy⟩) ?_
  refine goes_ok (decide_eq_true ⟨⟨hp3, hp4⟩, hs⟩) ?_
  refine goes_ok (decide_eq_true (by omega)) ?_
  exact hm
theorem k146_ok  : k146.ok Try.prog := by
  intro x hx
  obtain ⟨⟨cn, ⟨aq, nq, mq, tq, _⟩, rp, fl, _⟩, ⟨al, nl, ml, tl, _⟩, _⟩ := x
  obtain ⟨h1, h2⟩ := a146 cn aq nq mq tq rp fl al nl ml tl (s146 cn aq nq mq tq rp fl al nl ml tl (of_dec hx rfl))
  exact ⟨⟨400, (by decide : 2 + 1 + 2 ≤ 400), h1⟩, h2⟩
namespace S
def cseE (c s : Int) : Int := if c = 0 then s else c
end S
inductive St146e where
  | h0
abbrev Rt146e  := Int
noncomputable def V146e (cn : ByteArray) (aq nq mq : Nat) (tq : NI) (rp fl : Int) (al nl ml : Nat) (tl : NI) (r : Rt146e) : PV := PV.tup [PV.unk, PV.int .i64 r]
noncomputable def N146e (cn : ByteArray) (aq nq mq : Nat) (tq : NI) (rp fl : Int) (al nl ml : Nat) (tl : NI) (r : Rt146e) : List Blk := []
noncomputable def I146e (cn : ByteArray) (aq nq mq : Nat) (tq : NI) (rp fl : Int) (al nl ml : Nat) (tl : NI) : St146e → Hd
  | .h0  => ⟨hd Try.f46 0, [PV.ptr (PA.mk (2) (0) (0) (0)),
 PV.loose (PA.mk (1) (1) al (0)) nl, PV.int .i64 (↑nl : Int),
 PV.int .i64 (0 : Int)], [[(2, (true, Blk.cells
 [PV.str cn, PV.loose (PA.mk (0) (1) aq (0)) nq,
 PV.int .i64 rp, PV.int .i64 fl, PV.nils,
 PV.int .i64 (0 : Int), PV.tf false, PV.int .i64 (0 : Int),
 PV.tf false]))], [(0, (false, .cols mq [.int .i64 tq])), (1, (false, .cols ml [.int .i64 tl]))]], 3⟩
noncomputable def q146e (cn : ByteArray) (aq nq mq : Nat) (tq : NI) (rp fl : Int) (al nl ml : Nat) (tl : NI) : St146e → Option (St146e ⊕ Rt146e) | .h0  => bif (decide ((0 : Int) < (↑nl : Int))) then (bif (decide ((0 : Int) ≤ 0 ∧ (0 : Int) < (↑nl : Int))) then (bif (decide (0 + al < ml)) then (none) else (none)) else (none)) else (some (.inr ((0 : Int))))
noncomputable def p146e (cn : ByteArray) (aq nq mq : Nat) (tq : NI) (rp fl : Int) (al nl ml : Nat) (tl : NI) : Option (St146e ⊕ Rt146e) := bif (decide (aq + nq ≤ mq ∧ nq ≤ 1000000)) then (bif (S.cyE cn nq (fun j => tq (j + aq)) rp fl != 0) then (some (.inr (S.cyE cn nq (fun j => tq (j + aq)) rp fl))) else (bif (decide (al + nl ≤ ml ∧ nl ≤ 1000000)) then (bif ((S.setE nl fun j => tl (j + al)) != 0) then (some (.inr (S.setE nl fun j => tl (j + al)))) else (none)) else (none))) else (none)
def Te146e (test : TT) (Kst : KS) (Kret : KR) (cn : ByteArray) (aq nq mq : Nat) (tq : NI) (rp fl : Int) (al nl ml : Nat) (tl : NI) : Prop := test (decide (aq + nq ≤ mq ∧ nq ≤ 1000000)) (test (S.cyE cn nq (fun j => tq (j + aq)) rp fl != 0) (Kret (PV.tup [PV.nilp, PV.int .i64 (S.cyE cn nq (fun j => tq (j + aq)) rp fl)]) ([[(1, false, Blk.cols ml [Col.int .i64 tl]), (0, false, Blk.cols mq [Col.int .i64 tq])]]) (4)) (test (decide (al + nl ≤ ml ∧ nl ≤ 1000000)) (test ((S.setE nl fun j => tl (j + al)) != 0) (Kret (PV.tup [PV.nilp, PV.int .i64 (S.setE nl fun j => tl (j + al))]) ([[(1, false, Blk.cols ml [Col.int .i64 tl]), (0, false, Blk.cols mq [Col.int .i64 tq])]]) (5)) (test (false) (Kst (hd Try.f46 0) ([PV.ptr (PA.mk (6) (0) (0) (0)), PV.loose (PA.mk (1) (1) al (0)) nl, PV.int .i64 (↑nl : Int), PV.int .i64 (0 : Int)]) ([[(1, false, Blk.cols ml [Col.int .i64 tl]), (0, false, Blk.cols mq [Col.int .i64 tq]), (6, true, Blk.cells [PV.str cn, PV.loose (PA.mk (0) (1) aq (0)) nq, PV.int .i64 rp, PV.int .i64 fl, PV.nils, PV.int .i64 (0 : Int), PV.tf false, PV.int .i64 (0 : Int), PV.tf false])]]) (7)) (False))) (False))) (False)
theorem te146e (test : TT) (Kst : KS) (Kret : KR) (cn : ByteArray) (aq nq mq : Nat) (tq : NI) (rp fl : Int) (al nl ml : Nat) (tl : NI) : run test Try.env true (xM1 test) true 400 ⟨46, [.cd (mkFn Try.f46).body], argT 0 [.agg [.str cn, .loose ⟨0, 1, aq, 0⟩ nq, .int .i64 rp, .int .i64 fl], .loose ⟨1, 1, al, 0⟩ nl], [[], [(0, (false, .cols mq [.int .i64 tq])), (1, (false, .cols ml [.int .i64 tl]))]], 2⟩ (proj 2 [8, 26, 27, 28] Kst Kret) =
  Te146e test Kst Kret cn aq nq mq tq rp fl al nl ml tl := by kernel_rfl
def T146e_0 (test : TT) (Kst : KS) (Kret : KR) (cn : ByteArray) (aq nq mq : Nat) (tq : NI) (rp fl : Int) (al nl ml : Nat) (tl : NI)  : Prop := test (decide ((0 : Int) < (↑nl : Int))) (test (decide ((0 : Int) ≤ 0 ∧ (0 : Int) < (↑nl : Int))) (test (decide (0 + al < ml)) (False) (False)) (False)) (Kret (PV.tup [PV.ptr (PA.mk (2) (0) (0) (0)), PV.int .i64 (0 : Int)]) ([[(1, false, Blk.cols ml [Col.int .i64 tl]), (0, false, Blk.cols mq [Col.int .i64 tq]), (2, true, Blk.cells [PV.str cn, PV.loose (PA.mk (0) (1) aq (0)) nq, PV.int .i64 rp, PV.int .i64 fl, PV.nils, PV.int .i64 (0 : Int), PV.tf false, PV.int .i64 (0 : Int), PV.tf false])]]) (3))
theorem t146e_0 (test : TT) (Kst : KS) (Kret : KR) (cn : ByteArray) (aq nq mq : Nat) (tq : NI) (rp fl : Int) (al nl ml : Nat) (tl : NI)  : run test Try.env true (xM1 test) true 400 ⟨46, hd Try.f46 0, zipT [8, 26, 27, 28] [PV.ptr (PA.mk (2) (0) (0) (0)),
 PV.loose (PA.mk (1) (1) al (0)) nl, PV.int .i64 (↑nl : Int),
 PV.int .i64 (0 : Int)], [[(2, (true, Blk.cells
 [PV.str cn, PV.loose (PA.mk (0) (1) aq (0)) nq,
 PV.int .i64 rp, PV.int .i64 fl, PV.nils,
 PV.int .i64 (0 : Int), PV.tf false, PV.int .i64 (0 : Int),
 PV.tf false]))], [(0, (false, .cols mq [.int .i64 tq])), (1, (false, .cols ml [.int .i64 tl]))]], 3⟩ (proj 2 [8, 26, 27, 28] Kst Kret) =
  T146e_0 test Kst Kret cn aq nq mq tq rp fl al nl ml tl  := by kernel_rfl
attribute [local irreducible] Int.subNatNat in
theorem be146e (cn : ByteArray) (aq nq mq : Nat) (tq : NI) (rp fl : Int) (al nl ml : Nat) (tl : NI) (Kst : KS) (Kret : KR) (x : St146e ⊕ Rt146e) (hS : HS 2 400 ((I146e cn aq nq mq tq rp fl al nl ml tl)) Kst x) (hR : HR 2 400 ((V146e cn aq nq mq tq rp fl al nl ml tl)) (fun r => [newL (2 + 1) ((N146e cn aq nq mq tq rp fl al nl ml tl) r) ++ [(0, (false, .cols mq [.int .i64 tq])), (1, (false, .cols ml [.int .i64 tl]))]]) Kret x) (h : p146e cn aq nq mq tq rp fl al nl ml tl = some x) : Te146e cond Kst Kret cn aq nq mq tq rp fl al nl ml tl := by
  unfold Te146e
  unfold p146e at h
  exact bif_split h (fun c0 h => bif_split h (fun c1 h => ret_at hR _ h (fun n => n) rfl rfl rfl (rn_tup ⟨(rn_unk _), (rn_int rfl), trivial⟩) rfl (entl_bor (use_lo rfl) rfl rfl (entl_bor (use_lo rfl) rfl rfl entl_nil))) (fun c1 h => bif_split h (fun c2 h => bif_split h (fun c3 h => ret_at hR _ h (fun n => n) rfl rfl rfl (rn_tup ⟨(rn_unk _), (rn_int rfl), trivial⟩) rfl (entl_bor (use_lo rfl) rfl rfl (entl_bor (use_lo rfl) rfl rfl entl_nil))) (fun c3 h => cond_no rfl (no_some h))) (fun c2 h => no_some h))) (fun c0 h => no_some h)
attribute [local irreducible] Int.subNatNat in
theorem b146e_0 (cn : ByteArray) (aq nq mq : Nat) (tq : NI) (rp fl : Int) (al nl ml : Nat) (tl : NI) (Kst : KS) (Kret : KR) (x : St146e ⊕ Rt146e) (hS : HS 2 400 ((I146e cn aq nq mq tq rp fl al nl ml tl)) Kst x) (hR : HR 2 400 ((V146e cn aq nq mq tq rp fl al nl ml tl)) (fun r => [newL (2 + 1) ((N146e cn aq nq mq tq rp fl al nl ml tl) r) ++ [(0, (false, .cols mq [.int .i64 tq])), (1, (false, .cols ml [.int .i64 tl]))]]) Kret x)  (h : q146e cn aq nq mq tq rp fl al nl ml tl (.h0) = some x) : T146e_0 cond Kst Kret cn aq nq mq tq rp fl al nl ml tl  := by
  unfold T146e_0
  rw [q146e] at h
  exact bif_split h (fun c0 h => bif_split h (fun c1 h => bif_split h (fun c2 h => no_some h) (fun c2 h => no_some h)) (fun c1 h => no_some h)) (fun c0 h => ret_at hR _ h (fun n => n) rfl rfl rfl (rn_tup ⟨(rn_unk _), (rn_int rfl), trivial⟩) rfl (entl_bor (use_lo rfl) rfl rfl (entl_bor (use_lo rfl) rfl rfl entl_nil)))
theorem a146e (cn : ByteArray) (aq nq mq : Nat) (tq : NI) (rp fl : Int) (al nl ml : Nat) (tl : NI) {r : Rt146e} (h : Goes ((q146e cn aq nq mq tq rp fl al nl ml tl)) ((p146e cn aq nq mq tq rp fl al nl ml tl)) r) : CallR Try.prog 46 [.agg [.str cn, .loose ⟨0, 1, aq, 0⟩ nq, .int .i64 rp, .int .i64 fl], .loose ⟨1, 1, al, 0⟩ nl] [[(0, (false, .cols mq [.int .i64 tq])), (1, (false, .cols ml [.int .i64 tl]))]] 2 ((V146e cn aq nq mq tq rp fl al nl ml tl) r) ((fun r => [newL (2 + 1) ((N146e cn aq nq mq tq rp fl al nl ml tl) r) ++ [(0, (false, .cols mq [.int .i64 tq])), (1, (false, .cols ml [.int .i64 tl]))]]) r) 400 ∧ ∃ F, Try.prog.funcs[46]? = some F ∧ F.body.isSome = true ∧ (F.name == "runtime.NumGoroutine") = false := by
  refine dec_calls (f := 46) (lo := 2) (hi := 400) (H := [[(0, (false, .cols mq [.int .i64 tq])), (1, (false, .cols ml [.int .i64 tl]))]]) (args := [.agg [.str cn, .loose ⟨0, 1, aq, 0⟩ nq, .int .i64 rp, .int .i64 fl], .loose ⟨1, 1, al, 0⟩ nl]) Try.envOk Try.mixed xM1_ok ((I146e cn aq nq mq tq rp fl al nl ml tl)) ((V146e cn aq nq mq tq rp fl al nl ml tl)) (fun r => [newL (2 + 1) ((N146e cn aq nq mq tq rp fl al nl ml tl) r) ++ [(0, (false, .cols mq [.int .i64 tq])), (1, (false, .cols ml [.int .i64 tl]))]]) (fn := mkFn Try.f46) (ts := [8, 26, 27, 28]) (n := 400) rfl (by decide) (by simp) (names_of rfl) ?_ ?_ ?_ h
  · intro s; cases s <;> exact ⟨hd_ok _ _, by simp [I146e], names_of rfl, Nat.le_of_ble_eq_true rfl⟩
  · intro Kst Kret x hS hR h
    exact Holds.eq (te146e cond Kst Kret cn aq nq mq tq rp fl al nl ml tl) (be146e cn aq nq mq tq rp fl al nl ml tl Kst Kret x hS hR h)
  · intro Kst Kret x hS hR s h
    cases s with
    | h0  => exact Holds.eq (t146e_0 cond Kst Kret cn aq nq mq tq rp fl al nl ml tl ) (b146e_0 cn aq nq mq tq rp fl al nl ml tl Kst Kret x hS hR  h)
noncomputable def k146e  : Con := ⟨46, [.agg [.plain (.str), .list [.int .i64], .plain (.int .i64), .plain (.int .i64)], .one (.list [.int .i64])], fun (x : (ByteArray × (Nat × Nat × Nat × (Nat → Int) × Unit) × Int × Int × Unit) × (Nat × Nat × Nat × (Nat → Int) × Unit) × Unit) => (fun (cn : ByteArray) (aq nq mq : Nat) (tq : Nat → Int) (rp : Int) (fl : Int) (al nl ml : Nat) (tl : Nat → Int) => decide (((aq + nq ≤ mq ∧ nq ≤ 1000000) ∧ al + nl ≤ ml ∧ nl ≤ 1000000) ∧ ¬ ((S.cyE cn nq (fun j => tq (j + aq)) rp fl) = 0 ∧ (S.setE nl (fun j => tl (j + al))) = 0))) x.1.1 x.1.2.1.1 x.1.2.1.2.1 x.1.2.1.2.2.1 x.1.2.1.2.2.2.1 x.1.2.2.1 x.1.2.2.2.1 x.2.1.1 x.2.1.2.1 x.2.1.2.2.1 x.2.1.2.2.2.1, fun (x : (ByteArray × (Nat × Nat × Nat × (Nat → Int) × Unit) × Int × Int × Unit) × (Nat × Nat × Nat × (Nat → Int) × Unit) × Unit) => (fun (cn : ByteArray) (aq nq mq : Nat) (tq : Nat → Int) (rp : Int) (fl : Int) (al nl ml : Nat) (tl : Nat → Int) => (V146e cn aq nq mq tq rp fl al nl ml tl) (S.cseE (S.cyE cn nq (fun j => tq (j + aq)) rp fl) (S.setE nl (fun j => tl (j + al))))) x.1.1 x.1.2.1.1 x.1.2.1.2.1 x.1.2.1.2.2.1 x.1.2.1.2.2.2.1 x.1.2.2.1 x.1.2.2.2.1 x.2.1.1 x.2.1.2.1 x.2.1.2.2.1 x.2.1.2.2.2.1, fun (x : (ByteArray × (Nat × Nat × Nat × (Nat → Int) × Unit) × Int × Int × Unit) × (Nat × Nat × Nat × (Nat → Int) × Unit) × Unit) => (fun (cn : ByteArray) (aq nq mq : Nat) (tq : Nat → Int) (rp : Int) (fl : Int) (al nl ml : Nat) (tl : Nat → Int) => (N146e cn aq nq mq tq rp fl al nl ml tl) (S.cseE (S.cyE cn nq (fun j => tq (j + aq)) rp fl) (S.setE nl (fun j => tl (j + al))))) x.1.1 x.1.2.1.1 x.1.2.1.2.1 x.1.2.1.2.2.1 x.1.2.1.2.2.2.1 x.1.2.2.1 x.1.2.2.2.1 x.2.1.1 x.2.1.2.1 x.2.1.2.2.1 x.2.1.2.2.2.1, fun _ _ => .dead⟩
theorem s146e (cn : ByteArray) (aq nq mq : Nat) (tq : Nat → Int) (rp fl : Int) (al nl ml : Nat) (tl : Nat → Int) (hp : ((aq + nq ≤ mq ∧ nq ≤ 1000000) ∧ al + nl ≤ ml ∧ nl ≤ 1000000) ∧ ¬ ((S.cyE cn nq (fun j => tq (j + aq)) rp fl) = 0 ∧ (S.setE nl (fun j => tl (j + al))) = 0)) : Goes ((q146e cn aq nq mq tq rp fl al nl ml tl)) ((p146e cn aq nq mq tq rp fl al nl ml tl)) (S.cseE (S.cyE cn nq (fun j => tq (j + aq)) rp fl) (S.setE nl (fun j => tl (j + al)))) := by
  obtain ⟨⟨⟨hp1, hp2⟩, hp3, hp4⟩, hn⟩ := hp
  unfold S.cseE p146e
  generalize (S.cyE cn nq (fun j => tq (j + aq)) rp fl) = c at *
  generalize (S.setE nl (fun j => tl (j + al))) = s at *
  refine goes_ok (decide_eq_true ⟨hp1, hp2⟩) ?_
  by_cases hc : c = 0
  · rw [if_pos hc]
    refine goes_no (by simpa using hc) ?_
    refine goes_ok (decide_eq_true ⟨hp3, hp4⟩) ?_
    exact goes_ok (by simpa using fun h => hn ⟨hc, h⟩) (goes_inr.mpr rfl)
  · rw [if_neg hc]
    exact goes_ok (by simpa using hc) (goes_inr.mpr rfl)
theorem k146e_ok  : k146e.ok Try.prog := by
  intro x hx
  obtain ⟨⟨cn, ⟨aq, nq, mq, tq, _⟩, rp, fl, _⟩, ⟨al, nl, ml, tl, _⟩, _⟩ := x
  obtain ⟨h1, h2⟩ := a146e cn aq nq mq tq rp fl al nl ml tl (s146e cn aq nq mq tq rp fl al nl ml tl (of_dec hx rfl))
  exact ⟨⟨400, (by decide : 2 + 1 + 0 ≤ 400), h1⟩, h2⟩
end Go.Ev
