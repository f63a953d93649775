/-
  The law of Pairs.
-/
import Derived.Test.YtejcmbcmhfejkaaA8a
namespace Go.Ev
open Go.Proofs
set_option linter.unusedVariables false
set_option linter.unusedSimpArgs false
set_option maxRecDepth 100000
inductive St10 where
  | h0 (x0 : Int) (x1 : Int)
  | h1 (x0 : Int) (x1 : Int) (x2 : Int) (x3 : Int)
abbrev Rt10 := Bool
noncomputable def V10 (a : Int) (c : Int) (r : Rt10) : PV := PV.bool r
noncomputable def N10 (a : Int) (c : Int) (r : Rt10) : List Blk := []
noncomputable def I10 (a : Int) (c : Int) : St10 → Hd
  | .h0 x0 x1 => ⟨hd Try.f10 0, [PV.int IntKind.i64 ((1 : Int) + Int.tmod a (12 : Int)),
 PV.int IntKind.i64 ((1 : Int) + Int.tmod c (12 : Int)),
 PV.int IntKind.i64
 ((S.perS ((1 : Int) + Int.tmod a (12 : Int)) ((1 : Int) + Int.tmod c (12 : Int))).1),
 PV.int IntKind.i64
 ((S.perS ((1 : Int) + Int.tmod a (12 : Int)) ((1 : Int) + Int.tmod c (12 : Int))).2),
 PV.int IntKind.i64 x0, PV.unk, PV.int IntKind.i64 ((1 : Int) + Int.tmod a (12 : Int)),
 PV.int IntKind.i64 x1, PV.unk, PV.unk], [[], []], 0⟩
  | .h1 x0 x1 x2 x3 => ⟨hd Try.f10 1, [PV.int IntKind.i64 ((1 : Int) + Int.tmod a (12 : Int)),
 PV.int IntKind.i64 ((1 : Int) + Int.tmod c (12 : Int)),
 PV.int IntKind.i64
 ((S.perS ((1 : Int) + Int.tmod a (12 : Int)) ((1 : Int) + Int.tmod c (12 : Int))).1),
 PV.int IntKind.i64
 ((S.perS ((1 : Int) + Int.tmod a (12 : Int)) ((1 : Int) + Int.tmod c (12 : Int))).2),
 PV.int IntKind.i64 x0, PV.int IntKind.i64 x1,
 PV.int IntKind.i64 ((1 : Int) + Int.tmod a (12 : Int)), PV.int IntKind.i64 x2,
 PV.int IntKind.i64 ((1 : Int) + Int.tmod c (12 : Int)), PV.int IntKind.i64 x3], [[], []], 0⟩
noncomputable def q10 (a : Int) (c : Int) : St10 → Option (St10 ⊕ Rt10)
  | .h0 x0 x1 => bif (decide (x1 < (1 : Int) + Int.tmod a (12 : Int)))
 then (some (.inl (.h1 (x0) (x1) (x1) ((0 : Int)))))
 else (bif ((S.perS ((1 : Int) + Int.tmod a (12 : Int)) ((1 : Int) + Int.tmod c (12 : Int))).2 == (0 : Int))
 then (bif (x0 == (S.perS ((1 : Int) + Int.tmod a (12 : Int)) ((1 : Int) + Int.tmod c (12 : Int))).1)
 then (some (.inr (true)))
 else (some (.inr (false))))
 else (some (.inr (false))))
  | .h1 x0 x1 x2 x3 => bif (decide (x3 < (1 : Int) + Int.tmod c (12 : Int)))
 then (bif ((S.meeS ((1 : Int) + Int.tmod a (12 : Int)) x1 ((1 : Int) + Int.tmod c (12 : Int)) x3 (0 : Int)).2 ==
 (10 : Int))
 then (bif (lim IntKind.i64 (x3 + (1 : Int)))
 then (some (.inl (.h1 (x0) (x1) (x2) (x3 + (1 : Int)))))
 else (none))
 else (bif ((S.meeS ((1 : Int) + Int.tmod a (12 : Int)) x1 ((1 : Int) + Int.tmod c (12 : Int)) x3 (0 : Int)).2 !=
 (0 : Int))
 then (some (.inr (false)))
 else (bif (decide
 ((S.meeS ((1 : Int) + Int.tmod a (12 : Int)) x1 ((1 : Int) + Int.tmod c (12 : Int)) x3 (0 : Int)).1 <
 (0 : Int)))
 then (some (.inr (false)))
 else (bif (decide
 ((S.meeS ((1 : Int) + Int.tmod a (12 : Int)) x1 ((1 : Int) + Int.tmod c (12 : Int)) x3 (0 : Int)).1 ≥
 (S.perS ((1 : Int) + Int.tmod a (12 : Int)) ((1 : Int) + Int.tmod c (12 : Int))).1))
 then (some (.inr (false)))
 else (bif (lim IntKind.i64 (x0 + (1 : Int)))
 then (bif (lim IntKind.i64 (x3 + (1 : Int)))
 then (some (.inl (.h1 (x0 + (1 : Int)) (x1) (x2) (x3 + (1 : Int)))))
 else (none))
 else (none))))))
 else (bif (lim IntKind.i64 (x2 + (1 : Int)))
 then (some (.inl (.h0 (x0) (x2 + (1 : Int)))))
 else (none))
noncomputable def p10 (a : Int) (c : Int) : Option (St10 ⊕ Rt10) := bif (lim IntKind.i64 (Int.tmod a (12 : Int)))
 then (bif (lim IntKind.i64 ((1 : Int) + Int.tmod a (12 : Int)))
 then (bif (lim IntKind.i64 (Int.tmod c (12 : Int)))
 then (bif (lim IntKind.i64 ((1 : Int) + Int.tmod c (12 : Int)))
 then (some (.inl (.h0 ((0 : Int)) ((0 : Int)))))
 else (none))
 else (none))
 else (none))
 else (none)
noncomputable def Te10 (test : Bool → Prop → Prop → Prop) (Kst : KS) (Kret : KR) (a : Int) (c : Int) : Prop :=
  test (true)
 (test (true)
 (test (false)
 (False)
 (test (lim IntKind.i64 (Int.tmod a (12 : Int)))
 (test (lim IntKind.i64 ((1 : Int) + Int.tmod a (12 : Int)))
 (test (false)
 (False)
 (test (lim IntKind.i64 (Int.tmod c (12 : Int)))
 (test (lim IntKind.i64 ((1 : Int) + Int.tmod c (12 : Int)))
 (test (true)
 (Kst (hd Try.f10 0) ([PV.int IntKind.i64 ((1 : Int) + Int.tmod a (12 : Int)),
 PV.int IntKind.i64 ((1 : Int) + Int.tmod c (12 : Int)),
 PV.int IntKind.i64
 ((S.perS ((1 : Int) + Int.tmod a (12 : Int)) ((1 : Int) + Int.tmod c (12 : Int))).1),
 PV.int IntKind.i64
 ((S.perS ((1 : Int) + Int.tmod a (12 : Int)) ((1 : Int) + Int.tmod c (12 : Int))).2),
 PV.int IntKind.i64 (0 : Int), PV.unk, PV.int IntKind.i64 ((1 : Int) + Int.tmod a (12 : Int)),
 PV.int IntKind.i64 (0 : Int), PV.unk, PV.unk]) ([[]]) (2))
 (False))
 (False))
 (False)))
 (False))
 (False)))
 (Kret (PV.tf false) ([[]]) (1)))
 (False)
set_option maxRecDepth 100000 in
theorem te10 (test : Bool → Prop → Prop → Prop) (Kst : KS) (Kret : KR) (a : Int) (c : Int) : run test Try.env true (x10 test) true 400 ⟨10, [.cd (mkFn Try.f10).body], argT 0 [.int .u8 a, .int .u8 c], [[], []], 0⟩ (proj 0 [5, 6, 7, 8, 9, 10, 30, 31, 34, 35] Kst Kret) =
  Te10 test Kst Kret a c := by kernel_rfl
noncomputable def T10_0 (test : Bool → Prop → Prop → Prop) (Kst : KS) (Kret : KR) (a : Int) (c : Int) (x0 : Int) (x1 : Int) : Prop :=
  test (decide (x1 < (1 : Int) + Int.tmod a (12 : Int)))
 (Kst (hd Try.f10 1) ([PV.int IntKind.i64 ((1 : Int) + Int.tmod a (12 : Int)),
 PV.int IntKind.i64 ((1 : Int) + Int.tmod c (12 : Int)),
 PV.int IntKind.i64
 ((S.perS ((1 : Int) + Int.tmod a (12 : Int)) ((1 : Int) + Int.tmod c (12 : Int))).1),
 PV.int IntKind.i64
 ((S.perS ((1 : Int) + Int.tmod a (12 : Int)) ((1 : Int) + Int.tmod c (12 : Int))).2),
 PV.int IntKind.i64 x0, PV.int IntKind.i64 x1,
 PV.int IntKind.i64 ((1 : Int) + Int.tmod a (12 : Int)), PV.int IntKind.i64 x1,
 PV.int IntKind.i64 ((1 : Int) + Int.tmod c (12 : Int)), PV.int IntKind.i64 (0 : Int)]) ([[]]) (0))
 (test ((S.perS ((1 : Int) + Int.tmod a (12 : Int)) ((1 : Int) + Int.tmod c (12 : Int))).2 == (0 : Int))
 (test (x0 == (S.perS ((1 : Int) + Int.tmod a (12 : Int)) ((1 : Int) + Int.tmod c (12 : Int))).1)
 (Kret (PV.tf true) ([[]]) (0))
 (Kret (PV.tf false) ([[]]) (0)))
 (Kret (PV.tf false) ([[]]) (0)))
set_option maxRecDepth 100000 in
theorem t10_0 (test : Bool → Prop → Prop → Prop) (Kst : KS) (Kret : KR) (a : Int) (c : Int) (x0 : Int) (x1 : Int) : run test Try.env true (x10 test) true 400 ⟨10, hd Try.f10 0, zipT [5, 6, 7, 8, 9, 10, 30, 31, 34, 35] [PV.int IntKind.i64 ((1 : Int) + Int.tmod a (12 : Int)),
 PV.int IntKind.i64 ((1 : Int) + Int.tmod c (12 : Int)),
 PV.int IntKind.i64
 ((S.perS ((1 : Int) + Int.tmod a (12 : Int)) ((1 : Int) + Int.tmod c (12 : Int))).1),
 PV.int IntKind.i64
 ((S.perS ((1 : Int) + Int.tmod a (12 : Int)) ((1 : Int) + Int.tmod c (12 : Int))).2),
 PV.int IntKind.i64 x0, PV.unk, PV.int IntKind.i64 ((1 : Int) + Int.tmod a (12 : Int)),
 PV.int IntKind.i64 x1, PV.unk, PV.unk], [[], []], 0⟩ (proj 0 [5, 6, 7, 8, 9, 10, 30, 31, 34, 35] Kst Kret) =
  T10_0 test Kst Kret a c x0 x1 := by kernel_rfl
noncomputable def T10_1 (test : Bool → Prop → Prop → Prop) (Kst : KS) (Kret : KR) (a : Int) (c : Int) (x0 : Int) (x1 : Int) (x2 : Int) (x3 : Int) : Prop :=
  test (decide (x3 < (1 : Int) + Int.tmod c (12 : Int)))
 (test (true)
 (test ((S.meeS ((1 : Int) + Int.tmod a (12 : Int)) x1 ((1 : Int) + Int.tmod c (12 : Int)) x3 (0 : Int)).2 ==
 (10 : Int))
 (test (lim IntKind.i64 (x3 + (1 : Int)))
 (Kst (hd Try.f10 1) ([PV.int IntKind.i64 ((1 : Int) + Int.tmod a (12 : Int)),
 PV.int IntKind.i64 ((1 : Int) + Int.tmod c (12 : Int)),
 PV.int IntKind.i64
 ((S.perS ((1 : Int) + Int.tmod a (12 : Int)) ((1 : Int) + Int.tmod c (12 : Int))).1),
 PV.int IntKind.i64
 ((S.perS ((1 : Int) + Int.tmod a (12 : Int)) ((1 : Int) + Int.tmod c (12 : Int))).2),
 PV.int IntKind.i64 x0, PV.int IntKind.i64 x1,
 PV.int IntKind.i64 ((1 : Int) + Int.tmod a (12 : Int)), PV.int IntKind.i64 x2,
 PV.int IntKind.i64 ((1 : Int) + Int.tmod c (12 : Int)), PV.int IntKind.i64 (x3 + (1 : Int))]) ([[]]) (1))
 (False))
 (test ((S.meeS ((1 : Int) + Int.tmod a (12 : Int)) x1 ((1 : Int) + Int.tmod c (12 : Int)) x3 (0 : Int)).2 !=
 (0 : Int))
 (Kret (PV.tf false) ([[]]) (1))
 (test (decide
 ((S.meeS ((1 : Int) + Int.tmod a (12 : Int)) x1 ((1 : Int) + Int.tmod c (12 : Int)) x3 (0 : Int)).1 <
 (0 : Int)))
 (Kret (PV.tf false) ([[]]) (1))
 (test (decide
 ((S.meeS ((1 : Int) + Int.tmod a (12 : Int)) x1 ((1 : Int) + Int.tmod c (12 : Int)) x3 (0 : Int)).1 ≥
 (S.perS ((1 : Int) + Int.tmod a (12 : Int)) ((1 : Int) + Int.tmod c (12 : Int))).1))
 (Kret (PV.tf false) ([[]]) (1))
 (test (lim IntKind.i64 (x0 + (1 : Int)))
 (test (lim IntKind.i64 (x3 + (1 : Int)))
 (Kst (hd Try.f10 1) ([PV.int IntKind.i64 ((1 : Int) + Int.tmod a (12 : Int)),
 PV.int IntKind.i64 ((1 : Int) + Int.tmod c (12 : Int)),
 PV.int IntKind.i64
 ((S.perS ((1 : Int) + Int.tmod a (12 : Int)) ((1 : Int) + Int.tmod c (12 : Int))).1),
 PV.int IntKind.i64
 ((S.perS ((1 : Int) + Int.tmod a (12 : Int)) ((1 : Int) + Int.tmod c (12 : Int))).2),
 PV.int IntKind.i64 (x0 + (1 : Int)), PV.int IntKind.i64 x1,
 PV.int IntKind.i64 ((1 : Int) + Int.tmod a (12 : Int)), PV.int IntKind.i64 x2,
 PV.int IntKind.i64 ((1 : Int) + Int.tmod c (12 : Int)), PV.int IntKind.i64 (x3 + (1 : Int))]) ([[]]) (1))
 (False))
 (False))))))
 (False))
 (test (lim IntKind.i64 (x2 + (1 : Int)))
 (Kst (hd Try.f10 0) ([PV.int IntKind.i64 ((1 : Int) + Int.tmod a (12 : Int)),
 PV.int IntKind.i64 ((1 : Int) + Int.tmod c (12 : Int)),
 PV.int IntKind.i64
 ((S.perS ((1 : Int) + Int.tmod a (12 : Int)) ((1 : Int) + Int.tmod c (12 : Int))).1),
 PV.int IntKind.i64
 ((S.perS ((1 : Int) + Int.tmod a (12 : Int)) ((1 : Int) + Int.tmod c (12 : Int))).2),
 PV.int IntKind.i64 x0, PV.int IntKind.i64 x1,
 PV.int IntKind.i64 ((1 : Int) + Int.tmod a (12 : Int)), PV.int IntKind.i64 (x2 + (1 : Int)),
 PV.int IntKind.i64 ((1 : Int) + Int.tmod c (12 : Int)), PV.int IntKind.i64 x3]) ([[]]) (0))
 (False))
set_option maxRecDepth 100000 in
theorem t10_1 (test : Bool → Prop → Prop → Prop) (Kst : KS) (Kret : KR) (a : Int) (c : Int) (x0 : Int) (x1 : Int) (x2 : Int) (x3 : Int) : run test Try.env true (x10 test) true 400 ⟨10, hd Try.f10 1, zipT [5, 6, 7, 8, 9, 10, 30, 31, 34, 35] [PV.int IntKind.i64 ((1 : Int) + Int.tmod a (12 : Int)),
 PV.int IntKind.i64 ((1 : Int) + Int.tmod c (12 : Int)),
 PV.int IntKind.i64
 ((S.perS ((1 : Int) + Int.tmod a (12 : Int)) ((1 : Int) + Int.tmod c (12 : Int))).1),
 PV.int IntKind.i64
 ((S.perS ((1 : Int) + Int.tmod a (12 : Int)) ((1 : Int) + Int.tmod c (12 : Int))).2),
 PV.int IntKind.i64 x0, PV.int IntKind.i64 x1,
 PV.int IntKind.i64 ((1 : Int) + Int.tmod a (12 : Int)), PV.int IntKind.i64 x2,
 PV.int IntKind.i64 ((1 : Int) + Int.tmod c (12 : Int)), PV.int IntKind.i64 x3], [[], []], 0⟩ (proj 0 [5, 6, 7, 8, 9, 10, 30, 31, 34, 35] Kst Kret) =
  T10_1 test Kst Kret a c x0 x1 x2 x3 := by kernel_rfl
set_option maxRecDepth 100000 in
theorem be10 (a : Int) (c : Int) (Kst : KS) (Kret : KR) (x : St10 ⊕ Rt10) (hS : HS 0 400 ((I10 a c)) Kst x) (hR : HR 0 400 ((V10 a c)) (fun r => [newL (0 + 1) ((N10 a c) r) ++ []]) Kret x) (h : (bif (lim IntKind.i64 (Int.tmod a (12 : Int)))
 then (bif (lim IntKind.i64 ((1 : Int) + Int.tmod a (12 : Int)))
 then (bif (lim IntKind.i64 (Int.tmod c (12 : Int)))
 then (bif (lim IntKind.i64 ((1 : Int) + Int.tmod c (12 : Int)))
 then (some (.inl (.h0 ((0 : Int)) ((0 : Int)))))
 else (none))
 else (none))
 else (none))
 else (none) : Option (St10 ⊕ Rt10)) = some x) : Te10 cond Kst Kret a c := by
  unfold Te10
  exact cond_yes rfl (cond_yes rfl (cond_no rfl (bif_split h
   (fun c0 h => bif_split h
   (fun c1 h => cond_no rfl (bif_split h
   (fun c2 h => bif_split h
   (fun c3 h => cond_yes rfl (stop_at hS _ h (fun n => n) rfl rfl rfl ⟨(rn_int rfl), ⟨(rn_int rfl), ⟨(rn_int rfl), ⟨(rn_int rfl), ⟨(rn_int rfl), ⟨(rn_unk _), ⟨(rn_int rfl), ⟨(rn_int rfl), ⟨(rn_unk _), ⟨(rn_unk _), trivial⟩⟩⟩⟩⟩⟩⟩⟩⟩⟩ rfl entl_nil))
   (fun c3 h => no_some h))
   (fun c2 h => no_some h)))
   (fun c1 h => no_some h))
   (fun c0 h => no_some h))))
set_option maxRecDepth 100000 in
theorem b10_0 (a : Int) (c : Int) (Kst : KS) (Kret : KR) (x : St10 ⊕ Rt10) (hS : HS 0 400 ((I10 a c)) Kst x) (hR : HR 0 400 ((V10 a c)) (fun r => [newL (0 + 1) ((N10 a c) r) ++ []]) Kret x) (x0 : Int) (x1 : Int) (h : (bif (decide (x1 < (1 : Int) + Int.tmod a (12 : Int)))
 then (some (.inl (.h1 (x0) (x1) (x1) ((0 : Int)))))
 else (bif ((S.perS ((1 : Int) + Int.tmod a (12 : Int)) ((1 : Int) + Int.tmod c (12 : Int))).2 == (0 : Int))
 then (bif (x0 == (S.perS ((1 : Int) + Int.tmod a (12 : Int)) ((1 : Int) + Int.tmod c (12 : Int))).1)
 then (some (.inr (true)))
 else (some (.inr (false))))
 else (some (.inr (false)))) : Option (St10 ⊕ Rt10)) = some x) : T10_0 cond Kst Kret a c x0 x1 := by
  unfold T10_0
  exact bif_split h
   (fun c0 h => stop_at hS _ h (fun n => n) rfl rfl rfl ⟨(rn_int rfl), ⟨(rn_int rfl), ⟨(rn_int rfl), ⟨(rn_int rfl), ⟨(rn_int rfl), ⟨(rn_int rfl), ⟨(rn_int rfl), ⟨(rn_int rfl), ⟨(rn_int rfl), ⟨(rn_int rfl), trivial⟩⟩⟩⟩⟩⟩⟩⟩⟩⟩ rfl entl_nil)
   (fun c0 h => bif_split h
   (fun c1 h => bif_split h
   (fun c2 h => ret_at hR _ h (fun n => n) rfl rfl rfl (rn_bool_tf rfl) rfl entl_nil)
   (fun c2 h => ret_at hR _ h (fun n => n) rfl rfl rfl (rn_bool_tf rfl) rfl entl_nil))
   (fun c1 h => ret_at hR _ h (fun n => n) rfl rfl rfl (rn_bool_tf rfl) rfl entl_nil))
set_option maxRecDepth 100000 in
theorem b10_1 (a : Int) (c : Int) (Kst : KS) (Kret : KR) (x : St10 ⊕ Rt10) (hS : HS 0 400 ((I10 a c)) Kst x) (hR : HR 0 400 ((V10 a c)) (fun r => [newL (0 + 1) ((N10 a c) r) ++ []]) Kret x) (x0 : Int) (x1 : Int) (x2 : Int) (x3 : Int) (h : (bif (decide (x3 < (1 : Int) + Int.tmod c (12 : Int)))
 then (bif ((S.meeS ((1 : Int) + Int.tmod a (12 : Int)) x1 ((1 : Int) + Int.tmod c (12 : Int)) x3 (0 : Int)).2 ==
 (10 : Int))
 then (bif (lim IntKind.i64 (x3 + (1 : Int)))
 then (some (.inl (.h1 (x0) (x1) (x2) (x3 + (1 : Int)))))
 else (none))
 else (bif ((S.meeS ((1 : Int) + Int.tmod a (12 : Int)) x1 ((1 : Int) + Int.tmod c (12 : Int)) x3 (0 : Int)).2 !=
 (0 : Int))
 then (some (.inr (false)))
 else (bif (decide
 ((S.meeS ((1 : Int) + Int.tmod a (12 : Int)) x1 ((1 : Int) + Int.tmod c (12 : Int)) x3 (0 : Int)).1 <
 (0 : Int)))
 then (some (.inr (false)))
 else (bif (decide
 ((S.meeS ((1 : Int) + Int.tmod a (12 : Int)) x1 ((1 : Int) + Int.tmod c (12 : Int)) x3 (0 : Int)).1 ≥
 (S.perS ((1 : Int) + Int.tmod a (12 : Int)) ((1 : Int) + Int.tmod c (12 : Int))).1))
 then (some (.inr (false)))
 else (bif (lim IntKind.i64 (x0 + (1 : Int)))
 then (bif (lim IntKind.i64 (x3 + (1 : Int)))
 then (some (.inl (.h1 (x0 + (1 : Int)) (x1) (x2) (x3 + (1 : Int)))))
 else (none))
 else (none))))))
 else (bif (lim IntKind.i64 (x2 + (1 : Int)))
 then (some (.inl (.h0 (x0) (x2 + (1 : Int)))))
 else (none)) : Option (St10 ⊕ Rt10)) = some x) : T10_1 cond Kst Kret a c x0 x1 x2 x3 := by
  unfold T10_1
  exact bif_split h
   (fun c0 h => cond_yes rfl (bif_split h
   (fun c1 h => bif_split h
   (fun c2 h => stop_at hS _ h (fun n => n) rfl rfl rfl ⟨(rn_int rfl), ⟨(rn_int rfl), ⟨(rn_int rfl), ⟨(rn_int rfl), ⟨(rn_int rfl), ⟨(rn_int rfl), ⟨(rn_int rfl), ⟨(rn_int rfl), ⟨(rn_int rfl), ⟨(rn_int rfl), trivial⟩⟩⟩⟩⟩⟩⟩⟩⟩⟩ rfl entl_nil)
   (fun c2 h => no_some h))
   (fun c1 h => bif_split h
   (fun c2 h => ret_at hR _ h (fun n => n) rfl rfl rfl (rn_bool_tf rfl) rfl entl_nil)
   (fun c2 h => bif_split h
   (fun c3 h => ret_at hR _ h (fun n => n) rfl rfl rfl (rn_bool_tf rfl) rfl entl_nil)
   (fun c3 h => bif_split h
   (fun c4 h => ret_at hR _ h (fun n => n) rfl rfl rfl (rn_bool_tf rfl) rfl entl_nil)
   (fun c4 h => bif_split h
   (fun c5 h => bif_split h
   (fun c6 h => stop_at hS _ h (fun n => n) rfl rfl rfl ⟨(rn_int rfl), ⟨(rn_int rfl), ⟨(rn_int rfl), ⟨(rn_int rfl), ⟨(rn_int rfl), ⟨(rn_int rfl), ⟨(rn_int rfl), ⟨(rn_int rfl), ⟨(rn_int rfl), ⟨(rn_int rfl), trivial⟩⟩⟩⟩⟩⟩⟩⟩⟩⟩ rfl entl_nil)
   (fun c6 h => no_some h))
   (fun c5 h => no_some h)))))))
   (fun c0 h => bif_split h
   (fun c1 h => stop_at hS _ h (fun n => n) rfl rfl rfl ⟨(rn_int rfl), ⟨(rn_int rfl), ⟨(rn_int rfl), ⟨(rn_int rfl), ⟨(rn_int rfl), ⟨(rn_unk _), ⟨(rn_int rfl), ⟨(rn_int rfl), ⟨(rn_unk _), ⟨(rn_unk _), trivial⟩⟩⟩⟩⟩⟩⟩⟩⟩⟩ rfl entl_nil)
   (fun c1 h => no_some h))
theorem a10 (a : Int) (c : Int) {r : Rt10} (h : Goes ((q10 a c)) ((p10 a c)) r) : CallR Try.prog 10 [.int .u8 a, .int .u8 c] [[]] 0 ((V10 a c) r) ((fun r => [newL (0 + 1) ((N10 a c) r) ++ []]) r) 400 ∧ ∃ F, Try.prog.funcs[10]? = some F ∧ F.body.isSome = true ∧ (F.name == "runtime.NumGoroutine") = false := by
  refine dec_calls (f := 10) (lo := 0) (hi := 400) (H := [[]]) (args := [.int .u8 a, .int .u8 c]) Try.envOk Try.mixed x10_ok ((I10 a c)) ((V10 a c)) (fun r => [newL (0 + 1) ((N10 a c) r) ++ []]) (fn := mkFn Try.f10) (ts := [5, 6, 7, 8, 9, 10, 30, 31, 34, 35]) (n := 400) rfl (by decide) (by simp) (names_of rfl) ?_ ?_ ?_ h
  · intro s; cases s <;> exact ⟨hd_ok _ _, by simp [I10], names_of rfl, Nat.le_of_ble_eq_true rfl⟩
  · intro Kst Kret x hS hR h
    exact Holds.eq (te10 cond Kst Kret a c) (be10 a c Kst Kret x hS hR h)
  · intro Kst Kret x hS hR s h
    cases s with
    | h0 x0 x1 => exact Holds.eq (t10_0 cond Kst Kret a c x0 x1) (b10_0 a c Kst Kret x hS hR x0 x1 h)
    | h1 x0 x1 x2 x3 => exact Holds.eq (t10_1 cond Kst Kret a c x0 x1 x2 x3) (b10_1 a c Kst Kret x hS hR x0 x1 x2 x3 h)
noncomputable def k10 : Con := ⟨10, [.one (.plain (.int .u8)), .one (.plain (.int .u8))], fun (x : Int × Int × Unit) => (fun (a : Int) (c : Int) => decide (S.byte a = true ∧ S.byte c = true)) x.1 x.2.1, fun (x : Int × Int × Unit) => (fun (a : Int) (c : Int) => (V10 a c) (true)) x.1 x.2.1, fun (x : Int × Int × Unit) => (fun (a : Int) (c : Int) => (N10 a c) (true)) x.1 x.2.1, fun _ _ => .dead⟩
theorem s10b (a : Int) (c : Int) (n m : Nat) (hn : 1 + Int.tmod a 12 = (n : Int)) (hm : 1 + Int.tmod c 12 = (m : Int)) (h12 : n ≤ 12 ∧ m ≤ 12) (i : Nat) (hi : i < n) (hok : ∀ j, j < m → S.prOk n m i j = true) (h0 : Comes (q10 a c) (.h0 (S.cntT n m (i + 1)) ((i : Int) + 1)) true) : ∀ (k j : Nat) (g : Int), j + k = m → Holds (g = S.cntT n m i + S.cntR n m i j) → Comes (q10 a c) (.h1 g (i : Int) (i : Int) (j : Int)) true := by
  intro k
  induction k with
  | zero =>
    intro j g hj eg
    obtain rfl : m = j := by omega
    have eg := eg.get
    rw [show S.cntT n m (i + 1) = g from eg.symm] at h0
    apply Comes.of
    rw [q10]
    rw [hn, hm]
    repeat' first
      | with_reducible refine goes_if (fun h => ?_) (fun h => ?_) <;> (try simp only [lim64, decide_eq_true_eq, decide_eq_false_iff_not, Int.toNat_natCast, toNat_pred, toNat_succ, Option.getD_some, Option.getD_none, Bool.not_eq_true', Bool.not_eq_false', Bool.and_eq_true, Bool.or_eq_true, Bool.and_eq_false_iff, Bool.or_eq_false_iff, bne_iff_ne, beq_iff_eq, bne_eq_false_iff_eq, beq_eq_false_iff_ne, ne_eq, not_and, Int.not_le, Int.not_lt, ge_iff_le, gt_iff_lt, Nat.not_lt, Nat.not_le, Bool.not_eq_true, Bool.not_eq_false, Bool.true_eq_false, Bool.false_eq_true, not_false_eq_true, not_true_eq_false] at h)
      | exact goes_none.mpr (by omega)
    all_goals first | (exfalso; omega) | exact h0
  | succ k ih =>
    intro j g hj eg
    have ho := of_decide_eq_true (hok j (by omega))
    have b1 := cntT_b (n := n) h12.2 i
    have b2 := cntR_b (n := n) (m := m) (i := i) j
    have gb : 0 ≤ g ∧ g ≤ 1000 := by rw [eg.get]; omega
    have st1 : (S.meeS (n : Int) (i : Int) (m : Int) (j : Int) 0).2 = 10 → Comes (q10 a c) (.h1 g (i : Int) (i : Int) ((j : Int) + 1)) true := fun h => ih (j + 1) g (by omega) ⟨by simp only [S.cntR, h, if_true]; exact eg.get⟩
    have st2 : ¬ (S.meeS (n : Int) (i : Int) (m : Int) (j : Int) 0).2 = 10 → Comes (q10 a c) (.h1 (g + 1) (i : Int) (i : Int) ((j : Int) + 1)) true := fun h => ih (j + 1) (g + 1) (by omega) ⟨by simp only [S.cntR, if_neg h]; rw [eg.get]; omega⟩
    apply Comes.of
    rw [q10]
    rw [hn, hm]
    generalize (S.meeS (n : Int) (i : Int) (m : Int) (j : Int) 0).2 = e2 at *
    generalize (S.meeS (n : Int) (i : Int) (m : Int) (j : Int) 0).1 = e1 at *
    generalize (S.perS (n : Int) (m : Int)).1 = p1 at *
    repeat' first
      | with_reducible refine goes_if (fun h => ?_) (fun h => ?_) <;> (try simp only [lim64, decide_eq_true_eq, decide_eq_false_iff_not, Int.toNat_natCast, toNat_pred, toNat_succ, Option.getD_some, Option.getD_none, Bool.not_eq_true', Bool.not_eq_false', Bool.and_eq_true, Bool.or_eq_true, Bool.and_eq_false_iff, Bool.or_eq_false_iff, bne_iff_ne, beq_iff_eq, bne_eq_false_iff_eq, beq_eq_false_iff_ne, ne_eq, not_and, Int.not_le, Int.not_lt, ge_iff_le, gt_iff_lt, Nat.not_lt, Nat.not_le, Bool.not_eq_true, Bool.not_eq_false, Bool.true_eq_false, Bool.false_eq_true, not_false_eq_true, not_true_eq_false] at h)
      | exact goes_none.mpr (by omega)
    all_goals first | (exfalso; omega) | exact st1 (by assumption) | exact st2 (by assumption)
theorem s10a (a : Int) (c : Int) (n m : Nat) (hn : 1 + Int.tmod a 12 = (n : Int)) (hm : 1 + Int.tmod c 12 = (m : Int)) (h12 : n ≤ 12 ∧ m ≤ 12) (hok : ∀ i, i < n → ∀ j, j < m → S.prOk n m i j = true) (hp : S.cntT n m n = (S.perS (n : Int) (m : Int)).1 ∧ (S.perS (n : Int) (m : Int)).2 = 0) : ∀ (k i : Nat), i + k = n → Comes (q10 a c) (.h0 (S.cntT n m i) (i : Int)) true := by
  intro k
  induction k with
  | zero =>
    intro i hi
    obtain rfl : n = i := by omega
    apply Comes.of
    rw [q10]
    rw [hn, hm, hp.1, hp.2]
    refine goes_no (by apply decide_eq_false; omega) ?_
    exact goes_ok (by decide) (goes_ok (beq_self_eq_true _) rfl)
  | succ k ih =>
    intro i hi
    have hb := s10b a c n m hn hm h12 i (by omega) (hok i (by omega)) (ih (i + 1) (by omega)) m 0 (S.cntT n m i) (by omega) ⟨by simp [S.cntR]⟩
    apply Comes.of
    rw [q10]
    rw [hn]
    refine goes_ok (by apply decide_eq_true; omega) ?_
    exact hb
theorem s10 (a : Int) (c : Int) (hp : S.byte a = true ∧ S.byte c = true) : Goes ((q10 a c)) ((p10 a c)) (true) := by
  obtain ⟨hp1, hp2⟩ := hp
  have h1 := of_decide_eq_true hp1
  have h2 := of_decide_eq_true hp2
  have e1 := Int.tmod_eq_emod_of_nonneg (a := a) (b := 12) h1.1
  have e2 := Int.tmod_eq_emod_of_nonneg (a := c) (b := 12) h2.1
  have t1 : 0 ≤ Int.tmod a 12 ∧ Int.tmod a 12 ≤ 11 := by rw [e1]; omega
  have t2 : 0 ≤ Int.tmod c 12 ∧ Int.tmod c 12 ≤ 11 := by rw [e2]; omega
  obtain ⟨n, hn⟩ := Int.eq_ofNat_of_zero_le t1.1
  obtain ⟨m, hm⟩ := Int.eq_ofNat_of_zero_le t2.1
  obtain ⟨q1, q2, q3⟩ := pairs_all n (by omega) m (by omega)
  have hm := s10a a c (n + 1) (m + 1) (by omega) (by omega) (by omega) q1 ⟨q2, q3⟩ (n + 1) 0 (by omega)
  clear q1 q2 q3
  show Goes _ _ _
  unfold p10
  repeat' first
    | with_reducible refine goes_if (fun h => ?_) (fun h => ?_) <;> (try simp only [lim64, decide_eq_true_eq, decide_eq_false_iff_not, Int.toNat_natCast, toNat_pred, toNat_succ, Option.getD_some, Option.getD_none, Bool.not_eq_true', Bool.not_eq_false', Bool.and_eq_true, Bool.or_eq_true, Bool.and_eq_false_iff, Bool.or_eq_false_iff, bne_iff_ne, beq_iff_eq, bne_eq_false_iff_eq, beq_eq_false_iff_ne, ne_eq, not_and, Int.not_le, Int.not_lt, ge_iff_le, gt_iff_lt, Nat.not_lt, Nat.not_le, Bool.not_eq_true, Bool.not_eq_false, Bool.true_eq_false, Bool.false_eq_true, not_false_eq_true, not_true_eq_false] at h)
    | exact goes_none.mpr (by omega)
  all_goals first | (exfalso; omega) | exact hm

theorem k10_ok : k10.ok Try.prog := by
  intro x hx
  obtain ⟨a, c, _⟩ := x
  obtain ⟨h1, h2⟩ := a10 a c (s10 a c (of_dec hx rfl))
  exact ⟨⟨400, (by decide : 0 + 1 + 0 ≤ 400), h1⟩, h2⟩

end Go.Ev
