/-
  The law of Collisions.
-/
import Derived.Test.YtejcmbcmhfejkaaD3x
namespace Go.Ev
open Go.Proofs
set_option linter.unusedVariables false
set_option linter.unusedSimpArgs false
set_option maxRecDepth 100000

theorem col_law {h g o : Int} {n m : Nat} {t u : Nat → Int} : (S.colS h n t g m u o).2 ≠ 0 ∨ ((S.colS h n t g m u o).2 = 0 ∧ S.colS g m u h n t o = S.colS h n t g m u o) := by
  by_cases h0 : S.filE h n t = 0
  · by_cases h1 : S.filE g m u = 0
    · by_cases hv : h = g ∧ 0 ≤ o ∧ o < h
      · obtain ⟨rfl, hv2⟩ := hv
        obtain ⟨v1, v2, v3, v4⟩ := fil_ok h0
        refine Or.inr ⟨?_, ?_⟩
        · unfold S.colS; rw [if_pos h0, if_pos h1, if_pos ⟨rfl, hv2⟩]
        · unfold S.colS; rw [if_pos h0, if_pos h1, if_pos ⟨rfl, hv2⟩, if_pos h1, if_pos h0, if_pos ⟨rfl, hv2⟩, col_symm v1]
      · refine Or.inl ?_
        unfold S.colS; rw [if_pos h0, if_pos h1, if_neg hv]; decide
    · refine Or.inl ?_
      unfold S.colS; rw [if_pos h0, if_neg h1]; exact h1
  · refine Or.inl ?_
    unfold S.colS; rw [if_neg h0]; exact h0
abbrev St8 := Empty
abbrev Rt8 := Bool
noncomputable def V8 (hr : Int) (al nl ml : Nat) (tl : Nat → Int) (hg : Int) (am nm mm : Nat) (tm : Nat → Int) (o : Int) (r : Rt8) : PV := PV.bool r
noncomputable def N8 (hr : Int) (al nl ml : Nat) (tl : Nat → Int) (hg : Int) (am nm mm : Nat) (tm : Nat → Int) (o : Int) (r : Rt8) : List Blk := []
noncomputable def I8 (hr : Int) (al nl ml : Nat) (tl : Nat → Int) (hg : Int) (am nm mm : Nat) (tm : Nat → Int) (o : Int) : St8 → Hd := fun s => s.elim
noncomputable def q8 (hr : Int) (al nl ml : Nat) (tl : Nat → Int) (hg : Int) (am nm mm : Nat) (tm : Nat → Int) (o : Int) : St8 → Option (St8 ⊕ Rt8) := fun s => s.elim
noncomputable def p8 (hr : Int) (al nl ml : Nat) (tl : Nat → Int) (hg : Int) (am nm mm : Nat) (tm : Nat → Int) (o : Int) : Option (St8 ⊕ Rt8) := bif (decide ((↑nl : Int) ≤ (2100 : Int)))
 then (bif (decide ((↑nm : Int) ≤ (2100 : Int)))
 then (bif (decide (al + nl ≤ ml ∧ nl ≤ 1000000))
 then (bif (decide (am + nm ≤ mm ∧ nm ≤ 1000000))
 then (bif (decide (0 + nl ≤ nl ∧ nl ≤ 1000000 ∧ 0 + nm ≤ nm ∧ nm ≤ 1000000))
 then (bif (decide (al + nl ≤ ml ∧ nl ≤ 1000000 ∧ am + nm ≤ mm ∧ nm ≤ 1000000))
 then (bif ((S.colS hr nl (fun (j : Nat) => tl (j + al)) hg nm (fun (j : Nat) => tm (j + am)) o).1 !=
 (S.colS hr nl (fun (j : Nat) => tl (j + al)) hg nm (fun (j : Nat) => tm (j + am)) o).1)
 then (bif ((S.colS hr nl (fun (j : Nat) => tl (j + al)) hg nm (fun (j : Nat) => tm (j + am)) o).1 ==
 (S.colS hr nl (fun (j : Nat) => tl (j + al)) hg nm (fun (j : Nat) => tm (j + am)) o).1)
 then (bif ((S.colS hr nl (fun (j : Nat) => tl (j + al)) hg nm (fun (j : Nat) => tm (j + am)) o).2 ==
 (S.colS hr nl (fun (j : Nat) => tl (j + al)) hg nm (fun (j : Nat) => tm (j + am)) o).2)
 then (some (.inr (true)))
 else (some (.inr (false))))
 else (some (.inr (false))))
 else (bif ((S.colS hr nl (fun (j : Nat) => tl (j + al)) hg nm (fun (j : Nat) => tm (j + am)) o).2 !=
 (S.colS hr nl (fun (j : Nat) => tl (j + al)) hg nm (fun (j : Nat) => tm (j + am)) o).2)
 then (bif ((S.colS hr nl (fun (j : Nat) => tl (j + al)) hg nm (fun (j : Nat) => tm (j + am)) o).1 ==
 (S.colS hr nl (fun (j : Nat) => tl (j + al)) hg nm (fun (j : Nat) => tm (j + am)) o).1)
 then (bif ((S.colS hr nl (fun (j : Nat) => tl (j + al)) hg nm (fun (j : Nat) => tm (j + am)) o).2 ==
 (S.colS hr nl (fun (j : Nat) => tl (j + al)) hg nm (fun (j : Nat) => tm (j + am)) o).2)
 then (some (.inr (true)))
 else (some (.inr (false))))
 else (some (.inr (false))))
 else (bif ((S.colS hr nl (fun (j : Nat) => tl (j + al)) hg nm (fun (j : Nat) => tm (j + am)) o).2 != (0 : Int))
 then (bif ((S.colS hr nl (fun (j : Nat) => tl (j + al)) hg nm (fun (j : Nat) => tm (j + am)) o).1 ==
 (S.colS hr nl (fun (j : Nat) => tl (j + al)) hg nm (fun (j : Nat) => tm (j + am)) o).1)
 then (bif ((S.colS hr nl (fun (j : Nat) => tl (j + al)) hg nm (fun (j : Nat) => tm (j + am)) o).2 ==
 (S.colS hr nl (fun (j : Nat) => tl (j + al)) hg nm (fun (j : Nat) => tm (j + am)) o).2)
 then (some (.inr (true)))
 else (some (.inr (false))))
 else (some (.inr (false))))
 else (bif (decide (am + nm ≤ mm ∧ nm ≤ 1000000 ∧ al + nl ≤ ml ∧ nl ≤ 1000000))
 then (bif ((S.colS hg nm (fun (j : Nat) => tm (j + am)) hr nl (fun (j : Nat) => tl (j + al)) o).2 == (0 : Int))
 then (bif ((S.colS hg nm (fun (j : Nat) => tm (j + am)) hr nl (fun (j : Nat) => tl (j + al)) o).1 ==
 (S.colS hr nl (fun (j : Nat) => tl (j + al)) hg nm (fun (j : Nat) => tm (j + am)) o).1)
 then (some (.inr (true)))
 else (some (.inr (false))))
 else (some (.inr (false))))
 else (none)))))
 else (none))
 else (none))
 else (none))
 else (none))
 else (some (.inr (true))))
 else (some (.inr (true)))
noncomputable def Te8 (test : Bool → Prop → Prop → Prop) (Kst : KS) (Kret : KR) (hr : Int) (al nl ml : Nat) (tl : Nat → Int) (hg : Int) (am nm mm : Nat) (tm : Nat → Int) (o : Int) : Prop :=
  test (true)
 (test (true)
 (test (decide ((↑nl : Int) ≤ (2100 : Int)))
 (test (decide ((↑nm : Int) ≤ (2100 : Int)))
 (test (decide (al + nl ≤ ml ∧ nl ≤ 1000000))
 (test (decide (am + nm ≤ mm ∧ nm ≤ 1000000))
 (test (decide (0 + nl ≤ nl ∧ nl ≤ 1000000 ∧ 0 + nm ≤ nm ∧ nm ≤ 1000000))
 (test (decide (al + nl ≤ ml ∧ nl ≤ 1000000 ∧ am + nm ≤ mm ∧ nm ≤ 1000000))
 (test ((S.colS hr nl (fun (j : Nat) => tl (j + al)) hg nm (fun (j : Nat) => tm (j + am)) o).1 !=
 (S.colS hr nl (fun (j : Nat) => tl (j + al)) hg nm (fun (j : Nat) => tm (j + am)) o).1)
 (test ((S.colS hr nl (fun (j : Nat) => tl (j + al)) hg nm (fun (j : Nat) => tm (j + am)) o).1 ==
 (S.colS hr nl (fun (j : Nat) => tl (j + al)) hg nm (fun (j : Nat) => tm (j + am)) o).1)
 (test ((S.colS hr nl (fun (j : Nat) => tl (j + al)) hg nm (fun (j : Nat) => tm (j + am)) o).2 ==
 (S.colS hr nl (fun (j : Nat) => tl (j + al)) hg nm (fun (j : Nat) => tm (j + am)) o).2)
 (Kret (PV.tf true) ([[(1, false, Blk.cols mm [Col.int IntKind.i64 tm]),
 (0, false, Blk.cols ml [Col.int IntKind.i64 tl])]]) (17))
 (Kret (PV.tf false) ([[(1, false, Blk.cols mm [Col.int IntKind.i64 tm]),
 (0, false, Blk.cols ml [Col.int IntKind.i64 tl])]]) (17)))
 (Kret (PV.tf false) ([[(1, false, Blk.cols mm [Col.int IntKind.i64 tm]),
 (0, false, Blk.cols ml [Col.int IntKind.i64 tl])]]) (17)))
 (test ((S.colS hr nl (fun (j : Nat) => tl (j + al)) hg nm (fun (j : Nat) => tm (j + am)) o).2 !=
 (S.colS hr nl (fun (j : Nat) => tl (j + al)) hg nm (fun (j : Nat) => tm (j + am)) o).2)
 (test ((S.colS hr nl (fun (j : Nat) => tl (j + al)) hg nm (fun (j : Nat) => tm (j + am)) o).1 ==
 (S.colS hr nl (fun (j : Nat) => tl (j + al)) hg nm (fun (j : Nat) => tm (j + am)) o).1)
 (test ((S.colS hr nl (fun (j : Nat) => tl (j + al)) hg nm (fun (j : Nat) => tm (j + am)) o).2 ==
 (S.colS hr nl (fun (j : Nat) => tl (j + al)) hg nm (fun (j : Nat) => tm (j + am)) o).2)
 (Kret (PV.tf true) ([[(1, false, Blk.cols mm [Col.int IntKind.i64 tm]),
 (0, false, Blk.cols ml [Col.int IntKind.i64 tl])]]) (17))
 (Kret (PV.tf false) ([[(1, false, Blk.cols mm [Col.int IntKind.i64 tm]),
 (0, false, Blk.cols ml [Col.int IntKind.i64 tl])]]) (17)))
 (Kret (PV.tf false) ([[(1, false, Blk.cols mm [Col.int IntKind.i64 tm]),
 (0, false, Blk.cols ml [Col.int IntKind.i64 tl])]]) (17)))
 (test ((S.colS hr nl (fun (j : Nat) => tl (j + al)) hg nm (fun (j : Nat) => tm (j + am)) o).2 != (0 : Int))
 (test ((S.colS hr nl (fun (j : Nat) => tl (j + al)) hg nm (fun (j : Nat) => tm (j + am)) o).1 ==
 (S.colS hr nl (fun (j : Nat) => tl (j + al)) hg nm (fun (j : Nat) => tm (j + am)) o).1)
 (test ((S.colS hr nl (fun (j : Nat) => tl (j + al)) hg nm (fun (j : Nat) => tm (j + am)) o).2 ==
 (S.colS hr nl (fun (j : Nat) => tl (j + al)) hg nm (fun (j : Nat) => tm (j + am)) o).2)
 (Kret (PV.tf true) ([[(1, false, Blk.cols mm [Col.int IntKind.i64 tm]),
 (0, false, Blk.cols ml [Col.int IntKind.i64 tl])]]) (17))
 (Kret (PV.tf false) ([[(1, false, Blk.cols mm [Col.int IntKind.i64 tm]),
 (0, false, Blk.cols ml [Col.int IntKind.i64 tl])]]) (17)))
 (Kret (PV.tf false) ([[(1, false, Blk.cols mm [Col.int IntKind.i64 tm]),
 (0, false, Blk.cols ml [Col.int IntKind.i64 tl])]]) (17)))
 (test (decide (am + nm ≤ mm ∧ nm ≤ 1000000 ∧ al + nl ≤ ml ∧ nl ≤ 1000000))
 (test ((S.colS hg nm (fun (j : Nat) => tm (j + am)) hr nl (fun (j : Nat) => tl (j + al)) o).2 == (0 : Int))
 (test ((S.colS hg nm (fun (j : Nat) => tm (j + am)) hr nl (fun (j : Nat) => tl (j + al)) o).1 ==
 (S.colS hr nl (fun (j : Nat) => tl (j + al)) hg nm (fun (j : Nat) => tm (j + am)) o).1)
 (Kret (PV.tf true) ([[(1, false, Blk.cols mm [Col.int IntKind.i64 tm]),
 (0, false, Blk.cols ml [Col.int IntKind.i64 tl])]]) (18))
 (Kret (PV.tf false) ([[(1, false, Blk.cols mm [Col.int IntKind.i64 tm]),
 (0, false, Blk.cols ml [Col.int IntKind.i64 tl])]]) (18)))
 (Kret (PV.tf false) ([[(1, false, Blk.cols mm [Col.int IntKind.i64 tm]),
 (0, false, Blk.cols ml [Col.int IntKind.i64 tl])]]) (18)))
 (False)))))
 (False))
 (False))
 (False))
 (False))
 (test (true)
 (test (true)
 (Kret (PV.tf true) ([[(1, false, Blk.cols mm [Col.int IntKind.i64 tm]),
 (0, false, Blk.cols ml [Col.int IntKind.i64 tl])]]) (8))
 (Kret (PV.tf false) ([[(1, false, Blk.cols mm [Col.int IntKind.i64 tm]),
 (0, false, Blk.cols ml [Col.int IntKind.i64 tl])]]) (8)))
 (False)))
 (test (true)
 (test (true)
 (Kret (PV.tf true) ([[(1, false, Blk.cols mm [Col.int IntKind.i64 tm]),
 (0, false, Blk.cols ml [Col.int IntKind.i64 tl])]]) (7))
 (Kret (PV.tf false) ([[(1, false, Blk.cols mm [Col.int IntKind.i64 tm]),
 (0, false, Blk.cols ml [Col.int IntKind.i64 tl])]]) (7)))
 (False)))
 (test (true)
 (test (true)
 (Kret (PV.tf true) ([[(1, false, Blk.cols mm [Col.int IntKind.i64 tm]),
 (0, false, Blk.cols ml [Col.int IntKind.i64 tl])]]) (6))
 (Kret (PV.tf false) ([[(1, false, Blk.cols mm [Col.int IntKind.i64 tm]),
 (0, false, Blk.cols ml [Col.int IntKind.i64 tl])]]) (6)))
 (False)))
 (False)
set_option maxRecDepth 100000 in
theorem te8 (test : Bool → Prop → Prop → Prop) (Kst : KS) (Kret : KR) (hr : Int) (al nl ml : Nat) (tl : Nat → Int) (hg : Int) (am nm mm : Nat) (tm : Nat → Int) (o : Int) : run test Try.env true (xY test) true 400 ⟨8, [.cd (mkFn Try.f8).body], argT 0 [.agg [.int .i64 hr, .loose ⟨0, 1, al, 0⟩ nl], .agg [.int .i64 hg, .loose ⟨1, 1, am, 0⟩ nm], .int .i64 o], [[], [(0, (false, .cols ml [.int .i64 tl])), (1, (false, .cols mm [.int .i64 tm]))]], 2⟩ (proj 2 [] Kst Kret) =
  Te8 test Kst Kret hr al nl ml tl hg am nm mm tm o := by kernel_rfl
set_option maxRecDepth 100000 in
theorem be8 (hr : Int) (al nl ml : Nat) (tl : Nat → Int) (hg : Int) (am nm mm : Nat) (tm : Nat → Int) (o : Int) (Kst : KS) (Kret : KR) (x : St8 ⊕ Rt8) (hS : HS 2 400 ((I8 hr al nl ml tl hg am nm mm tm o)) Kst x) (hR : HR 2 400 ((V8 hr al nl ml tl hg am nm mm tm o)) (fun r => [newL (2 + 1) ((N8 hr al nl ml tl hg am nm mm tm o) r) ++ [(0, (false, .cols ml [.int .i64 tl])), (1, (false, .cols mm [.int .i64 tm]))]]) Kret x) (h : (bif (decide ((↑nl : Int) ≤ (2100 : Int)))
 then (bif (decide ((↑nm : Int) ≤ (2100 : Int)))
 then (bif (decide (al + nl ≤ ml ∧ nl ≤ 1000000))
 then (bif (decide (am + nm ≤ mm ∧ nm ≤ 1000000))
 then (bif (decide (0 + nl ≤ nl ∧ nl ≤ 1000000 ∧ 0 + nm ≤ nm ∧ nm ≤ 1000000))
 then (bif (decide (al + nl ≤ ml ∧ nl ≤ 1000000 ∧ am + nm ≤ mm ∧ nm ≤ 1000000))
 then (bif ((S.colS hr nl (fun (j : Nat) => tl (j + al)) hg nm (fun (j : Nat) => tm (j + am)) o).1 !=
 (S.colS hr nl (fun (j : Nat) => tl (j + al)) hg nm (fun (j : Nat) => tm (j + am)) o).1)
 then (bif ((S.colS hr nl (fun (j : Nat) => tl (j + al)) hg nm (fun (j : Nat) => tm (j + am)) o).1 ==
 (S.colS hr nl (fun (j : Nat) => tl (j + al)) hg nm (fun (j : Nat) => tm (j + am)) o).1)
 then (bif ((S.colS hr nl (fun (j : Nat) => tl (j + al)) hg nm (fun (j : Nat) => tm (j + am)) o).2 ==
 (S.colS hr nl (fun (j : Nat) => tl (j + al)) hg nm (fun (j : Nat) => tm (j + am)) o).2)
 then (some (.inr (true)))
 else (some (.inr (false))))
 else (some (.inr (false))))
 else (bif ((S.colS hr nl (fun (j : Nat) => tl (j + al)) hg nm (fun (j : Nat) => tm (j + am)) o).2 !=
 (S.colS hr nl (fun (j : Nat) => tl (j + al)) hg nm (fun (j : Nat) => tm (j + am)) o).2)
 then (bif ((S.colS hr nl (fun (j : Nat) => tl (j + al)) hg nm (fun (j : Nat) => tm (j + am)) o).1 ==
 (S.colS hr nl (fun (j : Nat) => tl (j + al)) hg nm (fun (j : Nat) => tm (j + am)) o).1)
 then (bif ((S.colS hr nl (fun (j : Nat) => tl (j + al)) hg nm (fun (j : Nat) => tm (j + am)) o).2 ==
 (S.colS hr nl (fun (j : Nat) => tl (j + al)) hg nm (fun (j : Nat) => tm (j + am)) o).2)
 then (some (.inr (true)))
 else (some (.inr (false))))
 else (some (.inr (false))))
 else (bif ((S.colS hr nl (fun (j : Nat) => tl (j + al)) hg nm (fun (j : Nat) => tm (j + am)) o).2 != (0 : Int))
 then (bif ((S.colS hr nl (fun (j : Nat) => tl (j + al)) hg nm (fun (j : Nat) => tm (j + am)) o).1 ==
 (S.colS hr nl (fun (j : Nat) => tl (j + al)) hg nm (fun (j : Nat) => tm (j + am)) o).1)
 then (bif ((S.colS hr nl (fun (j : Nat) => tl (j + al)) hg nm (fun (j : Nat) => tm (j + am)) o).2 ==
 (S.colS hr nl (fun (j : Nat) => tl (j + al)) hg nm (fun (j : Nat) => tm (j + am)) o).2)
 then (some (.inr (true)))
 else (some (.inr (false))))
 else (some (.inr (false))))
 else (bif (decide (am + nm ≤ mm ∧ nm ≤ 1000000 ∧ al + nl ≤ ml ∧ nl ≤ 1000000))
 then (bif ((S.colS hg nm (fun (j : Nat) => tm (j + am)) hr nl (fun (j : Nat) => tl (j + al)) o).2 == (0 : Int))
 then (bif ((S.colS hg nm (fun (j : Nat) => tm (j + am)) hr nl (fun (j : Nat) => tl (j + al)) o).1 ==
 (S.colS hr nl (fun (j : Nat) => tl (j + al)) hg nm (fun (j : Nat) => tm (j + am)) o).1)
 then (some (.inr (true)))
 else (some (.inr (false))))
 else (some (.inr (false))))
 else (none)))))
 else (none))
 else (none))
 else (none))
 else (none))
 else (some (.inr (true))))
 else (some (.inr (true))) : Option (St8 ⊕ Rt8)) = some x) : Te8 cond Kst Kret hr al nl ml tl hg am nm mm tm o := by
  unfold Te8
  exact cond_yes rfl (cond_yes rfl (bif_split h
   (fun c0 h => bif_split h
   (fun c1 h => bif_split h
   (fun c2 h => bif_split h
   (fun c3 h => bif_split h
   (fun c4 h => bif_split h
   (fun c5 h => bif_split h
   (fun c6 h => bif_split h
   (fun c7 h => bif_split h
   (fun c8 h => ret_at hR _ h (fun n => n) rfl rfl rfl (rn_bool_tf rfl) rfl (entl_bor (use_lo rfl) rfl rfl (entl_bor (use_lo rfl) rfl rfl entl_nil)))
   (fun c8 h => ret_at hR _ h (fun n => n) rfl rfl rfl (rn_bool_tf rfl) rfl (entl_bor (use_lo rfl) rfl rfl (entl_bor (use_lo rfl) rfl rfl entl_nil))))
   (fun c7 h => ret_at hR _ h (fun n => n) rfl rfl rfl (rn_bool_tf rfl) rfl (entl_bor (use_lo rfl) rfl rfl (entl_bor (use_lo rfl) rfl rfl entl_nil))))
   (fun c6 h => bif_split h
   (fun c7 h => bif_split h
   (fun c8 h => bif_split h
   (fun c9 h => ret_at hR _ h (fun n => n) rfl rfl rfl (rn_bool_tf rfl) rfl (entl_bor (use_lo rfl) rfl rfl (entl_bor (use_lo rfl) rfl rfl entl_nil)))
   (fun c9 h => ret_at hR _ h (fun n => n) rfl rfl rfl (rn_bool_tf rfl) rfl (entl_bor (use_lo rfl) rfl rfl (entl_bor (use_lo rfl) rfl rfl entl_nil))))
   (fun c8 h => ret_at hR _ h (fun n => n) rfl rfl rfl (rn_bool_tf rfl) rfl (entl_bor (use_lo rfl) rfl rfl (entl_bor (use_lo rfl) rfl rfl entl_nil))))
   (fun c7 h => bif_split h
   (fun c8 h => bif_split h
   (fun c9 h => bif_split h
   (fun c10 h => ret_at hR _ h (fun n => n) rfl rfl rfl (rn_bool_tf rfl) rfl (entl_bor (use_lo rfl) rfl rfl (entl_bor (use_lo rfl) rfl rfl entl_nil)))
   (fun c10 h => ret_at hR _ h (fun n => n) rfl rfl rfl (rn_bool_tf rfl) rfl (entl_bor (use_lo rfl) rfl rfl (entl_bor (use_lo rfl) rfl rfl entl_nil))))
   (fun c9 h => ret_at hR _ h (fun n => n) rfl rfl rfl (rn_bool_tf rfl) rfl (entl_bor (use_lo rfl) rfl rfl (entl_bor (use_lo rfl) rfl rfl entl_nil))))
   (fun c8 h => bif_split h
   (fun c9 h => bif_split h
   (fun c10 h => bif_split h
   (fun c11 h => ret_at hR _ h (fun n => n) rfl rfl rfl (rn_bool_tf rfl) rfl (entl_bor (use_lo rfl) rfl rfl (entl_bor (use_lo rfl) rfl rfl entl_nil)))
   (fun c11 h => ret_at hR _ h (fun n => n) rfl rfl rfl (rn_bool_tf rfl) rfl (entl_bor (use_lo rfl) rfl rfl (entl_bor (use_lo rfl) rfl rfl entl_nil))))
   (fun c10 h => ret_at hR _ h (fun n => n) rfl rfl rfl (rn_bool_tf rfl) rfl (entl_bor (use_lo rfl) rfl rfl (entl_bor (use_lo rfl) rfl rfl entl_nil))))
   (fun c9 h => no_some h)))))
   (fun c5 h => no_some h))
   (fun c4 h => no_some h))
   (fun c3 h => no_some h))
   (fun c2 h => no_some h))
   (fun c1 h => cond_yes rfl (cond_yes rfl (ret_at hR _ h (fun n => n) rfl rfl rfl (rn_bool_tf rfl) rfl (entl_bor (use_lo rfl) rfl rfl (entl_bor (use_lo rfl) rfl rfl entl_nil))))))
   (fun c0 h => cond_yes rfl (cond_yes rfl (ret_at hR _ h (fun n => n) rfl rfl rfl (rn_bool_tf rfl) rfl (entl_bor (use_lo rfl) rfl rfl (entl_bor (use_lo rfl) rfl rfl entl_nil)))))))
theorem a8 (hr : Int) (al nl ml : Nat) (tl : Nat → Int) (hg : Int) (am nm mm : Nat) (tm : Nat → Int) (o : Int) {r : Rt8} (h : Goes ((q8 hr al nl ml tl hg am nm mm tm o)) ((p8 hr al nl ml tl hg am nm mm tm o)) r) : CallR Try.prog 8 [.agg [.int .i64 hr, .loose ⟨0, 1, al, 0⟩ nl], .agg [.int .i64 hg, .loose ⟨1, 1, am, 0⟩ nm], .int .i64 o] [[(0, (false, .cols ml [.int .i64 tl])), (1, (false, .cols mm [.int .i64 tm]))]] 2 ((V8 hr al nl ml tl hg am nm mm tm o) r) ((fun r => [newL (2 + 1) ((N8 hr al nl ml tl hg am nm mm tm o) r) ++ [(0, (false, .cols ml [.int .i64 tl])), (1, (false, .cols mm [.int .i64 tm]))]]) r) 400 ∧ ∃ F, Try.prog.funcs[8]? = some F ∧ F.body.isSome = true ∧ (F.name == "runtime.NumGoroutine") = false := by
  refine dec_calls (f := 8) (lo := 2) (hi := 400) (H := [[(0, (false, .cols ml [.int .i64 tl])), (1, (false, .cols mm [.int .i64 tm]))]]) (args := [.agg [.int .i64 hr, .loose ⟨0, 1, al, 0⟩ nl], .agg [.int .i64 hg, .loose ⟨1, 1, am, 0⟩ nm], .int .i64 o]) Try.envOk Try.mixed xY_ok ((I8 hr al nl ml tl hg am nm mm tm o)) ((V8 hr al nl ml tl hg am nm mm tm o)) (fun r => [newL (2 + 1) ((N8 hr al nl ml tl hg am nm mm tm o) r) ++ [(0, (false, .cols ml [.int .i64 tl])), (1, (false, .cols mm [.int .i64 tm]))]]) (fn := mkFn Try.f8) (ts := []) (n := 400) rfl (by decide) (by simp) (names_of rfl) ?_ ?_ ?_ h
  · intro s; exact s.elim
  · intro Kst Kret x hS hR h
    exact Holds.eq (te8 cond Kst Kret hr al nl ml tl hg am nm mm tm o) (be8 hr al nl ml tl hg am nm mm tm o Kst Kret x hS hR h)
  · intro Kst Kret x hS hR s h; exact s.elim
noncomputable def k8 : Con := ⟨8, [.agg [.plain (.int .i64), .list [.int .i64]], .agg [.plain (.int .i64), .list [.int .i64]], .one (.plain (.int .i64))], fun (x : (Int × (Nat × Nat × Nat × (Nat → Int) × Unit) × Unit) × (Int × (Nat × Nat × Nat × (Nat → Int) × Unit) × Unit) × Int × Unit) => (fun (hr : Int) (al nl ml : Nat) (tl : Nat → Int) (hg : Int) (am nm mm : Nat) (tm : Nat → Int) (o : Int) => decide (al + nl ≤ ml ∧ am + nm ≤ mm)) x.1.1 x.1.2.1.1 x.1.2.1.2.1 x.1.2.1.2.2.1 x.1.2.1.2.2.2.1 x.2.1.1 x.2.1.2.1.1 x.2.1.2.1.2.1 x.2.1.2.1.2.2.1 x.2.1.2.1.2.2.2.1 x.2.2.1, fun (x : (Int × (Nat × Nat × Nat × (Nat → Int) × Unit) × Unit) × (Int × (Nat × Nat × Nat × (Nat → Int) × Unit) × Unit) × Int × Unit) => (fun (hr : Int) (al nl ml : Nat) (tl : Nat → Int) (hg : Int) (am nm mm : Nat) (tm : Nat → Int) (o : Int) => (V8 hr al nl ml tl hg am nm mm tm o) (true)) x.1.1 x.1.2.1.1 x.1.2.1.2.1 x.1.2.1.2.2.1 x.1.2.1.2.2.2.1 x.2.1.1 x.2.1.2.1.1 x.2.1.2.1.2.1 x.2.1.2.1.2.2.1 x.2.1.2.1.2.2.2.1 x.2.2.1, fun (x : (Int × (Nat × Nat × Nat × (Nat → Int) × Unit) × Unit) × (Int × (Nat × Nat × Nat × (Nat → Int) × Unit) × Unit) × Int × Unit) => (fun (hr : Int) (al nl ml : Nat) (tl : Nat → Int) (hg : Int) (am nm mm : Nat) (tm : Nat → Int) (o : Int) => (N8 hr al nl ml tl hg am nm mm tm o) (true)) x.1.1 x.1.2.1.1 x.1.2.1.2.1 x.1.2.1.2.2.1 x.1.2.1.2.2.2.1 x.2.1.1 x.2.1.2.1.1 x.2.1.2.1.2.1 x.2.1.2.1.2.2.1 x.2.1.2.1.2.2.2.1 x.2.2.1, fun _ _ => .dead⟩
theorem s8 (hr : Int) (al nl ml : Nat) (tl : Nat → Int) (hg : Int) (am nm mm : Nat) (tm : Nat → Int) (o : Int) (hp : al + nl ≤ ml ∧ am + nm ≤ mm) : Goes ((q8 hr al nl ml tl hg am nm mm tm o)) ((p8 hr al nl ml tl hg am nm mm tm o)) (true) := by
  unfold p8
  by_cases hn : nl ≤ 2100
  · by_cases hm : nm ≤ 2100
    · have h1 := col_law (h := hr) (g := hg) (o := o) (n := nl) (m := nm) (t := (fun j => tl (j + al))) (u := (fun j => tm (j + am)))
      generalize S.colS hg nm (fun j => tm (j + am)) hr nl (fun j => tl (j + al)) o = Q at *
      generalize S.colS hr nl (fun j => tl (j + al)) hg nm (fun j => tm (j + am)) o = P at *
      rcases h1 with h2 | ⟨h2, h3⟩
      · repeat' first
          | with_reducible exact goes_inr.mpr rfl
          | (refine goes_if (fun h => ?_) (fun h => ?_))
        all_goals first | rfl | (exfalso; simp_all; done) | (exfalso; simp at h; omega)
      · subst h3
        have h6 : (Q.2 != 0) = false := by rw [h2]; rfl
        have h7 : (Q.2 == 0) = true := by rw [h2]; rfl
        repeat' first
          | with_reducible exact goes_inr.mpr rfl
          | (refine goes_ok ?_ ?_; focus (first | with_reducible exact beq_self_eq_true _ | (simp only [Bool.and_eq_true, decide_eq_true_eq, and_self, eq_self]; done) | with_reducible exact decide_eq_true trivial | with_reducible exact decide_eq_true rfl | (simp only [eq_self, decide_true, Bool.and_self, Bool.and_true, Bool.true_and]; done) | (apply decide_eq_true; omega) | (rw [lim64]; apply decide_eq_true; omega) | (apply decide_eq_true; simp only [mkl_len, mkl_zero, List.length_nil, true_and, and_true, and_self, Nat.zero_add, Nat.add_zero, Nat.le_refl]; done) | (apply decide_eq_true; simp only [mkl_len, mkl_zero, List.length_nil, true_and, and_true, and_self, Nat.zero_add, Nat.add_zero, Nat.le_refl]; omega) | decide | exact h7))
          | (refine goes_no ?_ ?_; focus (first | with_reducible exact bne_self_eq_false _ | (apply decide_eq_false; omega) | decide | exact h6))
    · have hd : decide ((nm : Int) ≤ 2100) = false := decide_eq_false (by omega)
      have hd' : decide ((nl : Int) ≤ 2100) = true := decide_eq_true (by omega)
      simp only [hd, hd', cond_true, cond_false]
      first | done | exact goes_inr.mpr rfl
  · have hd : decide ((nl : Int) ≤ 2100) = false := decide_eq_false (by omega)
    rw [hd]
    exact goes_inr.mpr rfl

theorem k8_ok : k8.ok Try.prog := by
  intro x hx
  obtain ⟨⟨hr, ⟨al, nl, ml, tl, _⟩, _⟩, ⟨hg, ⟨am, nm, mm, tm, _⟩, _⟩, o, _⟩ := x
  obtain ⟨h1, h2⟩ := a8 hr al nl ml tl hg am nm mm tm o (s8 hr al nl ml tl hg am nm mm tm o (of_dec hx rfl))
  exact ⟨⟨400, (by decide : 2 + 1 + 0 ≤ 400), h1⟩, h2⟩

end Go.Ev
