/-
  The law of Turn.
-/
import Derived.Test.YtejcmbcmhfejkaaC2
namespace Go.Ev
open Go.Proofs
set_option linter.unusedVariables false
set_option linter.unusedSimpArgs false
set_option maxRecDepth 100000

theorem turn_law {h v : Int} {n : Nat} {t : Nat → Int} (hn : n ≤ 2100) : (S.turnS h n t v).2.2.length ≤ 2000 ∧ ((S.turnS h n t v).2.1 ≠ 0 ∨ ((S.turnS h n t v).2.1 = 0 ∧ (-1099511627776 ≤ v ∧ v ≤ 1099511627776) ∧ S.turnS (S.turnS h n t v).1 (S.turnS h n t v).2.2.length (fun j => S.at' (S.turnS h n t v).2.2 j) (-v) = (h, 0, S.mkl n t))) := by
  by_cases h0 : S.filE h n t = 0
  · by_cases hv : -1099511627776 ≤ v ∧ v ≤ 1099511627776
    · have e : S.turnS h n t v = (h, 0, S.posP (S.inB (S.turnT h v t) n) h.toNat) := by unfold S.turnS; rw [if_pos h0, if_pos hv]
      obtain ⟨v1, v2, v3, v4⟩ := fil_ok h0
      rw [e]
      refine ⟨Nat.le_trans posP_len (by omega), Or.inr ⟨rfl, hv, ?_⟩⟩
      show S.turnS h (S.posP (S.inB (S.turnT h v t) n) h.toNat).length (S.at' (S.posP (S.inB (S.turnT h v t) n) h.toNat)) (-v) = _
      unfold S.turnS
      rw [if_pos (fil_pos ⟨v1, v2⟩), if_pos (by omega), turn_back h0 rfl]
    · have e : S.turnS h n t v = (0, 6, []) := by unfold S.turnS; rw [if_pos h0, if_neg hv]
      rw [e]; exact ⟨Nat.zero_le _, Or.inl (by decide)⟩
  · have e : S.turnS h n t v = (0, S.filE h n t, []) := by unfold S.turnS; rw [if_neg h0]
    rw [e]; exact ⟨Nat.zero_le _, Or.inl h0⟩
abbrev St7 := Empty
abbrev Rt7 := Bool
noncomputable def V7 (hr : Int) (al nl ml : Nat) (tl : Nat → Int) (v : Int) (r : Rt7) : PV := PV.bool r
noncomputable def N7 (hr : Int) (al nl ml : Nat) (tl : Nat → Int) (v : Int) (r : Rt7) : List Blk := []
noncomputable def I7 (hr : Int) (al nl ml : Nat) (tl : Nat → Int) (v : Int) : St7 → Hd := fun s => s.elim
noncomputable def q7 (hr : Int) (al nl ml : Nat) (tl : Nat → Int) (v : Int) : St7 → Option (St7 ⊕ Rt7) := fun s => s.elim
noncomputable def p7 (hr : Int) (al nl ml : Nat) (tl : Nat → Int) (v : Int) : Option (St7 ⊕ Rt7) := bif (decide ((↑nl : Int) ≤ (2100 : Int)))
 then (bif (decide (al + nl ≤ ml ∧ nl ≤ 1000000))
 then (bif (decide (0 + nl ≤ nl ∧ nl ≤ 1000000))
 then (bif ((S.turnS hr nl (fun (j : Nat) => tl (j + al)) v).2.1 !=
 (S.turnS hr nl (fun (j : Nat) => tl (j + al)) v).2.1)
 then (bif ((S.turnS hr nl (fun (j : Nat) => tl (j + al)) v).2.1 ==
 (S.turnS hr nl (fun (j : Nat) => tl (j + al)) v).2.1)
 then (bif (decide
 (0 + List.length ((S.turnS hr nl (fun (j : Nat) => tl (j + al)) v).2.2) ≤
 List.length ((S.turnS hr nl (fun (j : Nat) => tl (j + al)) v).2.2) ∧
 List.length ((S.turnS hr nl (fun (j : Nat) => tl (j + al)) v).2.2) ≤ 1000000 ∧
 0 + List.length ((S.turnS hr nl (fun (j : Nat) => tl (j + al)) v).2.2) ≤
 List.length ((S.turnS hr nl (fun (j : Nat) => tl (j + al)) v).2.2) ∧
 List.length ((S.turnS hr nl (fun (j : Nat) => tl (j + al)) v).2.2) ≤ 1000000))
 then (bif (decide
 ((S.turnS hr nl (fun (j : Nat) => tl (j + al)) v).1 =
 (S.turnS hr nl (fun (j : Nat) => tl (j + al)) v).1) &&
 decide
 ((S.mkl (List.length ((S.turnS hr nl (fun (j : Nat) => tl (j + al)) v).2.2))
 fun (j : Nat) => S.at' ((S.turnS hr nl (fun (j : Nat) => tl (j + al)) v).2.2) j) =
 S.mkl (List.length ((S.turnS hr nl (fun (j : Nat) => tl (j + al)) v).2.2))
 fun (j : Nat) => S.at' ((S.turnS hr nl (fun (j : Nat) => tl (j + al)) v).2.2) j))
 then (some (.inr (true)))
 else (some (.inr (false))))
 else (none))
 else (some (.inr (false))))
 else (bif (decide
 (0 + List.length ((S.turnS hr nl (fun (j : Nat) => tl (j + al)) v).2.2) ≤
 List.length ((S.turnS hr nl (fun (j : Nat) => tl (j + al)) v).2.2) ∧
 List.length ((S.turnS hr nl (fun (j : Nat) => tl (j + al)) v).2.2) ≤ 1000000 ∧
 0 + List.length ((S.turnS hr nl (fun (j : Nat) => tl (j + al)) v).2.2) ≤
 List.length ((S.turnS hr nl (fun (j : Nat) => tl (j + al)) v).2.2) ∧
 List.length ((S.turnS hr nl (fun (j : Nat) => tl (j + al)) v).2.2) ≤ 1000000))
 then (bif (decide
 ((S.turnS hr nl (fun (j : Nat) => tl (j + al)) v).1 =
 (S.turnS hr nl (fun (j : Nat) => tl (j + al)) v).1) &&
 decide
 ((S.mkl (List.length ((S.turnS hr nl (fun (j : Nat) => tl (j + al)) v).2.2))
 fun (j : Nat) => S.at' ((S.turnS hr nl (fun (j : Nat) => tl (j + al)) v).2.2) j) =
 S.mkl (List.length ((S.turnS hr nl (fun (j : Nat) => tl (j + al)) v).2.2))
 fun (j : Nat) => S.at' ((S.turnS hr nl (fun (j : Nat) => tl (j + al)) v).2.2) j))
 then (bif ((S.turnS hr nl (fun (j : Nat) => tl (j + al)) v).2.1 != (0 : Int))
 then (bif ((S.turnS hr nl (fun (j : Nat) => tl (j + al)) v).2.1 ==
 (S.turnS hr nl (fun (j : Nat) => tl (j + al)) v).2.1)
 then (some (.inr (true)))
 else (some (.inr (false))))
 else (bif (lim IntKind.i64 (-v))
 then (bif (decide
 (0 + List.length ((S.turnS hr nl (fun (j : Nat) => tl (j + al)) v).2.2) ≤
 List.length ((S.turnS hr nl (fun (j : Nat) => tl (j + al)) v).2.2) ∧
 List.length ((S.turnS hr nl (fun (j : Nat) => tl (j + al)) v).2.2) ≤ 1000000))
 then (bif (Prod.fst
 (Prod.snd
 (S.turnS ((S.turnS hr nl (fun (j : Nat) => tl (j + al)) v).1)
 (List.length ((S.turnS hr nl (fun (j : Nat) => tl (j + al)) v).2.2))
 (fun (j : Nat) => S.at' ((S.turnS hr nl (fun (j : Nat) => tl (j + al)) v).2.2) j)
 (-v))) ==
 (0 : Int))
 then (bif (decide
 (0 +
 List.length
 (Prod.snd
 (Prod.snd
 (S.turnS ((S.turnS hr nl (fun (j : Nat) => tl (j + al)) v).1)
 (List.length ((S.turnS hr nl (fun (j : Nat) => tl (j + al)) v).2.2))
 (fun (j : Nat) =>
 S.at' ((S.turnS hr nl (fun (j : Nat) => tl (j + al)) v).2.2) j)
 (-v)))) ≤
 List.length
 (Prod.snd
 (Prod.snd
 (S.turnS ((S.turnS hr nl (fun (j : Nat) => tl (j + al)) v).1)
 (List.length ((S.turnS hr nl (fun (j : Nat) => tl (j + al)) v).2.2))
 (fun (j : Nat) =>
 S.at' ((S.turnS hr nl (fun (j : Nat) => tl (j + al)) v).2.2) j)
 (-v)))) ∧
 List.length
 (Prod.snd
 (Prod.snd
 (S.turnS ((S.turnS hr nl (fun (j : Nat) => tl (j + al)) v).1)
 (List.length ((S.turnS hr nl (fun (j : Nat) => tl (j + al)) v).2.2))
 (fun (j : Nat) =>
 S.at' ((S.turnS hr nl (fun (j : Nat) => tl (j + al)) v).2.2) j)
 (-v)))) ≤
 1000000 ∧
 al + nl ≤ ml ∧ nl ≤ 1000000))
 then (bif (decide
 (Prod.fst
 (S.turnS ((S.turnS hr nl (fun (j : Nat) => tl (j + al)) v).1)
 (List.length ((S.turnS hr nl (fun (j : Nat) => tl (j + al)) v).2.2))
 (fun (j : Nat) => S.at' ((S.turnS hr nl (fun (j : Nat) => tl (j + al)) v).2.2) j)
 (-v)) =
 hr) &&
 decide
 ((S.mkl
 (List.length
 (Prod.snd
 (Prod.snd
 (S.turnS ((S.turnS hr nl (fun (j : Nat) => tl (j + al)) v).1)
 (List.length ((S.turnS hr nl (fun (j : Nat) => tl (j + al)) v).2.2))
 (fun (j : Nat) =>
 S.at' ((S.turnS hr nl (fun (j : Nat) => tl (j + al)) v).2.2) j)
 (-v)))))
 fun (j : Nat) =>
 S.at'
 (Prod.snd
 (Prod.snd
 (S.turnS ((S.turnS hr nl (fun (j : Nat) => tl (j + al)) v).1)
 (List.length ((S.turnS hr nl (fun (j : Nat) => tl (j + al)) v).2.2))
 (fun (j : Nat) =>
 S.at' ((S.turnS hr nl (fun (j : Nat) => tl (j + al)) v).2.2) j)
 (-v))))
 j) =
 S.mkl nl fun (j : Nat) => tl (j + al)))
 then (some (.inr (true)))
 else (some (.inr (false))))
 else (none))
 else (some (.inr (false))))
 else (none))
 else (none)))
 else (bif ((S.turnS hr nl (fun (j : Nat) => tl (j + al)) v).2.1 ==
 (S.turnS hr nl (fun (j : Nat) => tl (j + al)) v).2.1)
 then (some (.inr (false)))
 else (some (.inr (false)))))
 else (none)))
 else (none))
 else (none))
 else (some (.inr (true)))
noncomputable def Te7 (test : Bool → Prop → Prop → Prop) (Kst : KS) (Kret : KR) (hr : Int) (al nl ml : Nat) (tl : Nat → Int) (v : Int) : Prop :=
  test (true)
 (test (true)
 (test (decide ((↑nl : Int) ≤ (2100 : Int)))
 (test (decide (al + nl ≤ ml ∧ nl ≤ 1000000))
 (test (decide (0 + nl ≤ nl ∧ nl ≤ 1000000))
 (test (decide (al + nl ≤ ml ∧ nl ≤ 1000000))
 (test ((S.turnS hr nl (fun (j : Nat) => tl (j + al)) v).2.1 !=
 (S.turnS hr nl (fun (j : Nat) => tl (j + al)) v).2.1)
 (test ((S.turnS hr nl (fun (j : Nat) => tl (j + al)) v).2.1 ==
 (S.turnS hr nl (fun (j : Nat) => tl (j + al)) v).2.1)
 (test (decide
 (0 + List.length ((S.turnS hr nl (fun (j : Nat) => tl (j + al)) v).2.2) ≤
 List.length ((S.turnS hr nl (fun (j : Nat) => tl (j + al)) v).2.2) ∧
 List.length ((S.turnS hr nl (fun (j : Nat) => tl (j + al)) v).2.2) ≤ 1000000 ∧
 0 + List.length ((S.turnS hr nl (fun (j : Nat) => tl (j + al)) v).2.2) ≤
 List.length ((S.turnS hr nl (fun (j : Nat) => tl (j + al)) v).2.2) ∧
 List.length ((S.turnS hr nl (fun (j : Nat) => tl (j + al)) v).2.2) ≤ 1000000))
 (test (decide
 ((S.turnS hr nl (fun (j : Nat) => tl (j + al)) v).1 =
 (S.turnS hr nl (fun (j : Nat) => tl (j + al)) v).1) &&
 decide
 ((S.mkl (List.length ((S.turnS hr nl (fun (j : Nat) => tl (j + al)) v).2.2))
 fun (j : Nat) => S.at' ((S.turnS hr nl (fun (j : Nat) => tl (j + al)) v).2.2) j) =
 S.mkl (List.length ((S.turnS hr nl (fun (j : Nat) => tl (j + al)) v).2.2))
 fun (j : Nat) => S.at' ((S.turnS hr nl (fun (j : Nat) => tl (j + al)) v).2.2) j))
 (Kret (PV.tf true) ([[(0, false, Blk.cols ml [Col.int IntKind.i64 tl])]]) (15))
 (Kret (PV.tf false) ([[(0, false, Blk.cols ml [Col.int IntKind.i64 tl])]]) (15)))
 (False))
 (Kret (PV.tf false) ([[(0, false, Blk.cols ml [Col.int IntKind.i64 tl])]]) (14)))
 (test (decide
 (0 + List.length ((S.turnS hr nl (fun (j : Nat) => tl (j + al)) v).2.2) ≤
 List.length ((S.turnS hr nl (fun (j : Nat) => tl (j + al)) v).2.2) ∧
 List.length ((S.turnS hr nl (fun (j : Nat) => tl (j + al)) v).2.2) ≤ 1000000 ∧
 0 + List.length ((S.turnS hr nl (fun (j : Nat) => tl (j + al)) v).2.2) ≤
 List.length ((S.turnS hr nl (fun (j : Nat) => tl (j + al)) v).2.2) ∧
 List.length ((S.turnS hr nl (fun (j : Nat) => tl (j + al)) v).2.2) ≤ 1000000))
 (test (decide
 ((S.turnS hr nl (fun (j : Nat) => tl (j + al)) v).1 =
 (S.turnS hr nl (fun (j : Nat) => tl (j + al)) v).1) &&
 decide
 ((S.mkl (List.length ((S.turnS hr nl (fun (j : Nat) => tl (j + al)) v).2.2))
 fun (j : Nat) => S.at' ((S.turnS hr nl (fun (j : Nat) => tl (j + al)) v).2.2) j) =
 S.mkl (List.length ((S.turnS hr nl (fun (j : Nat) => tl (j + al)) v).2.2))
 fun (j : Nat) => S.at' ((S.turnS hr nl (fun (j : Nat) => tl (j + al)) v).2.2) j))
 (test ((S.turnS hr nl (fun (j : Nat) => tl (j + al)) v).2.1 != (0 : Int))
 (test ((S.turnS hr nl (fun (j : Nat) => tl (j + al)) v).2.1 ==
 (S.turnS hr nl (fun (j : Nat) => tl (j + al)) v).2.1)
 (test (decide
 (0 + List.length ((S.turnS hr nl (fun (j : Nat) => tl (j + al)) v).2.2) ≤
 List.length ((S.turnS hr nl (fun (j : Nat) => tl (j + al)) v).2.2) ∧
 List.length ((S.turnS hr nl (fun (j : Nat) => tl (j + al)) v).2.2) ≤ 1000000 ∧
 0 + List.length ((S.turnS hr nl (fun (j : Nat) => tl (j + al)) v).2.2) ≤
 List.length ((S.turnS hr nl (fun (j : Nat) => tl (j + al)) v).2.2) ∧
 List.length ((S.turnS hr nl (fun (j : Nat) => tl (j + al)) v).2.2) ≤ 1000000))
 (test (decide
 ((S.turnS hr nl (fun (j : Nat) => tl (j + al)) v).1 =
 (S.turnS hr nl (fun (j : Nat) => tl (j + al)) v).1) &&
 decide
 ((S.mkl (List.length ((S.turnS hr nl (fun (j : Nat) => tl (j + al)) v).2.2))
 fun (j : Nat) => S.at' ((S.turnS hr nl (fun (j : Nat) => tl (j + al)) v).2.2) j) =
 S.mkl (List.length ((S.turnS hr nl (fun (j : Nat) => tl (j + al)) v).2.2))
 fun (j : Nat) => S.at' ((S.turnS hr nl (fun (j : Nat) => tl (j + al)) v).2.2) j))
 (Kret (PV.tf true) ([[(0, false, Blk.cols ml [Col.int IntKind.i64 tl])]]) (16))
 (Kret (PV.tf false) ([[(0, false, Blk.cols ml [Col.int IntKind.i64 tl])]]) (16)))
 (False))
 (Kret (PV.tf false) ([[(0, false, Blk.cols ml [Col.int IntKind.i64 tl])]]) (15)))
 (test (lim IntKind.i64 (-v))
 (test (decide
 (0 + List.length ((S.turnS hr nl (fun (j : Nat) => tl (j + al)) v).2.2) ≤
 List.length ((S.turnS hr nl (fun (j : Nat) => tl (j + al)) v).2.2) ∧
 List.length ((S.turnS hr nl (fun (j : Nat) => tl (j + al)) v).2.2) ≤ 1000000))
 (test (Prod.fst
 (Prod.snd
 (S.turnS ((S.turnS hr nl (fun (j : Nat) => tl (j + al)) v).1)
 (List.length ((S.turnS hr nl (fun (j : Nat) => tl (j + al)) v).2.2))
 (fun (j : Nat) => S.at' ((S.turnS hr nl (fun (j : Nat) => tl (j + al)) v).2.2) j)
 (-v))) ==
 (0 : Int))
 (test (decide
 (0 +
 List.length
 (Prod.snd
 (Prod.snd
 (S.turnS ((S.turnS hr nl (fun (j : Nat) => tl (j + al)) v).1)
 (List.length ((S.turnS hr nl (fun (j : Nat) => tl (j + al)) v).2.2))
 (fun (j : Nat) =>
 S.at' ((S.turnS hr nl (fun (j : Nat) => tl (j + al)) v).2.2) j)
 (-v)))) ≤
 List.length
 (Prod.snd
 (Prod.snd
 (S.turnS ((S.turnS hr nl (fun (j : Nat) => tl (j + al)) v).1)
 (List.length ((S.turnS hr nl (fun (j : Nat) => tl (j + al)) v).2.2))
 (fun (j : Nat) =>
 S.at' ((S.turnS hr nl (fun (j : Nat) => tl (j + al)) v).2.2) j)
 (-v)))) ∧
 List.length
 (Prod.snd
 (Prod.snd
 (S.turnS ((S.turnS hr nl (fun (j : Nat) => tl (j + al)) v).1)
 (List.length ((S.turnS hr nl (fun (j : Nat) => tl (j + al)) v).2.2))
 (fun (j : Nat) =>
 S.at' ((S.turnS hr nl (fun (j : Nat) => tl (j + al)) v).2.2) j)
 (-v)))) ≤
 1000000 ∧
 al + nl ≤ ml ∧ nl ≤ 1000000))
 (test (decide
 (Prod.fst
 (S.turnS ((S.turnS hr nl (fun (j : Nat) => tl (j + al)) v).1)
 (List.length ((S.turnS hr nl (fun (j : Nat) => tl (j + al)) v).2.2))
 (fun (j : Nat) => S.at' ((S.turnS hr nl (fun (j : Nat) => tl (j + al)) v).2.2) j)
 (-v)) =
 hr) &&
 decide
 ((S.mkl
 (List.length
 (Prod.snd
 (Prod.snd
 (S.turnS ((S.turnS hr nl (fun (j : Nat) => tl (j + al)) v).1)
 (List.length ((S.turnS hr nl (fun (j : Nat) => tl (j + al)) v).2.2))
 (fun (j : Nat) =>
 S.at' ((S.turnS hr nl (fun (j : Nat) => tl (j + al)) v).2.2) j)
 (-v)))))
 fun (j : Nat) =>
 S.at'
 (Prod.snd
 (Prod.snd
 (S.turnS ((S.turnS hr nl (fun (j : Nat) => tl (j + al)) v).1)
 (List.length ((S.turnS hr nl (fun (j : Nat) => tl (j + al)) v).2.2))
 (fun (j : Nat) =>
 S.at' ((S.turnS hr nl (fun (j : Nat) => tl (j + al)) v).2.2) j)
 (-v))))
 j) =
 S.mkl nl fun (j : Nat) => tl (j + al)))
 (Kret (PV.tf true) ([[(0, false, Blk.cols ml [Col.int IntKind.i64 tl])]]) (19))
 (Kret (PV.tf false) ([[(0, false, Blk.cols ml [Col.int IntKind.i64 tl])]]) (19)))
 (False))
 (Kret (PV.tf false) ([[(0, false, Blk.cols ml [Col.int IntKind.i64 tl])]]) (18)))
 (False))
 (False)))
 (test ((S.turnS hr nl (fun (j : Nat) => tl (j + al)) v).2.1 ==
 (S.turnS hr nl (fun (j : Nat) => tl (j + al)) v).2.1)
 (test (decide
 (0 + List.length ((S.turnS hr nl (fun (j : Nat) => tl (j + al)) v).2.2) ≤
 List.length ((S.turnS hr nl (fun (j : Nat) => tl (j + al)) v).2.2) ∧
 List.length ((S.turnS hr nl (fun (j : Nat) => tl (j + al)) v).2.2) ≤ 1000000 ∧
 0 + List.length ((S.turnS hr nl (fun (j : Nat) => tl (j + al)) v).2.2) ≤
 List.length ((S.turnS hr nl (fun (j : Nat) => tl (j + al)) v).2.2) ∧
 List.length ((S.turnS hr nl (fun (j : Nat) => tl (j + al)) v).2.2) ≤ 1000000))
 (test (decide
 ((S.turnS hr nl (fun (j : Nat) => tl (j + al)) v).1 =
 (S.turnS hr nl (fun (j : Nat) => tl (j + al)) v).1) &&
 decide
 ((S.mkl (List.length ((S.turnS hr nl (fun (j : Nat) => tl (j + al)) v).2.2))
 fun (j : Nat) => S.at' ((S.turnS hr nl (fun (j : Nat) => tl (j + al)) v).2.2) j) =
 S.mkl (List.length ((S.turnS hr nl (fun (j : Nat) => tl (j + al)) v).2.2))
 fun (j : Nat) => S.at' ((S.turnS hr nl (fun (j : Nat) => tl (j + al)) v).2.2) j))
 (Kret (PV.tf true) ([[(0, false, Blk.cols ml [Col.int IntKind.i64 tl])]]) (16))
 (Kret (PV.tf false) ([[(0, false, Blk.cols ml [Col.int IntKind.i64 tl])]]) (16)))
 (False))
 (Kret (PV.tf false) ([[(0, false, Blk.cols ml [Col.int IntKind.i64 tl])]]) (15))))
 (False)))
 (False))
 (False))
 (False))
 (test (true)
 (test (true)
 (Kret (PV.tf true) ([[(0, false, Blk.cols ml [Col.int IntKind.i64 tl])]]) (5))
 (Kret (PV.tf false) ([[(0, false, Blk.cols ml [Col.int IntKind.i64 tl])]]) (5)))
 (False)))
 (test (true)
 (test (true)
 (Kret (PV.tf true) ([[(0, false, Blk.cols ml [Col.int IntKind.i64 tl])]]) (4))
 (Kret (PV.tf false) ([[(0, false, Blk.cols ml [Col.int IntKind.i64 tl])]]) (4)))
 (False)))
 (False)
set_option maxRecDepth 100000 in
theorem te7 (test : Bool → Prop → Prop → Prop) (Kst : KS) (Kret : KR) (hr : Int) (al nl ml : Nat) (tl : Nat → Int) (v : Int) : run test Try.env true (xU test) true 400 ⟨7, [.cd (mkFn Try.f7).body], argT 0 [.agg [.int .i64 hr, .loose ⟨0, 1, al, 0⟩ nl], .int .i64 v], [[], [(0, (false, .cols ml [.int .i64 tl]))]], 1⟩ (proj 1 [] Kst Kret) =
  Te7 test Kst Kret hr al nl ml tl v := by kernel_rfl
set_option maxRecDepth 100000 in
theorem be7 (hr : Int) (al nl ml : Nat) (tl : Nat → Int) (v : Int) (Kst : KS) (Kret : KR) (x : St7 ⊕ Rt7) (hS : HS 1 400 ((I7 hr al nl ml tl v)) Kst x) (hR : HR 1 400 ((V7 hr al nl ml tl v)) (fun r => [newL (1 + 1) ((N7 hr al nl ml tl v) r) ++ [(0, (false, .cols ml [.int .i64 tl]))]]) Kret x) (h : (bif (decide ((↑nl : Int) ≤ (2100 : Int)))
 then (bif (decide (al + nl ≤ ml ∧ nl ≤ 1000000))
 then (bif (decide (0 + nl ≤ nl ∧ nl ≤ 1000000))
 then (bif ((S.turnS hr nl (fun (j : Nat) => tl (j + al)) v).2.1 !=
 (S.turnS hr nl (fun (j : Nat) => tl (j + al)) v).2.1)
 then (bif ((S.turnS hr nl (fun (j : Nat) => tl (j + al)) v).2.1 ==
 (S.turnS hr nl (fun (j : Nat) => tl (j + al)) v).2.1)
 then (bif (decide
 (0 + List.length ((S.turnS hr nl (fun (j : Nat) => tl (j + al)) v).2.2) ≤
 List.length ((S.turnS hr nl (fun (j : Nat) => tl (j + al)) v).2.2) ∧
 List.length ((S.turnS hr nl (fun (j : Nat) => tl (j + al)) v).2.2) ≤ 1000000 ∧
 0 + List.length ((S.turnS hr nl (fun (j : Nat) => tl (j + al)) v).2.2) ≤
 List.length ((S.turnS hr nl (fun (j : Nat) => tl (j + al)) v).2.2) ∧
 List.length ((S.turnS hr nl (fun (j : Nat) => tl (j + al)) v).2.2) ≤ 1000000))
 then (bif (decide
 ((S.turnS hr nl (fun (j : Nat) => tl (j + al)) v).1 =
 (S.turnS hr nl (fun (j : Nat) => tl (j + al)) v).1) &&
 decide
 ((S.mkl (List.length ((S.turnS hr nl (fun (j : Nat) => tl (j + al)) v).2.2))
 fun (j : Nat) => S.at' ((S.turnS hr nl (fun (j : Nat) => tl (j + al)) v).2.2) j) =
 S.mkl (List.length ((S.turnS hr nl (fun (j : Nat) => tl (j + al)) v).2.2))
 fun (j : Nat) => S.at' ((S.turnS hr nl (fun (j : Nat) => tl (j + al)) v).2.2) j))
 then (some (.inr (true)))
 else (some (.inr (false))))
 else (none))
 else (some (.inr (false))))
 else (bif (decide
 (0 + List.length ((S.turnS hr nl (fun (j : Nat) => tl (j + al)) v).2.2) ≤
 List.length ((S.turnS hr nl (fun (j : Nat) => tl (j + al)) v).2.2) ∧
 List.length ((S.turnS hr nl (fun (j : Nat) => tl (j + al)) v).2.2) ≤ 1000000 ∧
 0 + List.length ((S.turnS hr nl (fun (j : Nat) => tl (j + al)) v).2.2) ≤
 List.length ((S.turnS hr nl (fun (j : Nat) => tl (j + al)) v).2.2) ∧
 List.length ((S.turnS hr nl (fun (j : Nat) => tl (j + al)) v).2.2) ≤ 1000000))
 then (bif (decide
 ((S.turnS hr nl (fun (j : Nat) => tl (j + al)) v).1 =
 (S.turnS hr nl (fun (j : Nat) => tl (j + al)) v).1) &&
 decide
 ((S.mkl (List.length ((S.turnS hr nl (fun (j : Nat) => tl (j + al)) v).2.2))
 fun (j : Nat) => S.at' ((S.turnS hr nl (fun (j : Nat) => tl (j + al)) v).2.2) j) =
 S.mkl (List.length ((S.turnS hr nl (fun (j : Nat) => tl (j + al)) v).2.2))
 fun (j : Nat) => S.at' ((S.turnS hr nl (fun (j : Nat) => tl (j + al)) v).2.2) j))
 then (bif ((S.turnS hr nl (fun (j : Nat) => tl (j + al)) v).2.1 != (0 : Int))
 then (bif ((S.turnS hr nl (fun (j : Nat) => tl (j + al)) v).2.1 ==
 (S.turnS hr nl (fun (j : Nat) => tl (j + al)) v).2.1)
 then (some (.inr (true)))
 else (some (.inr (false))))
 else (bif (lim IntKind.i64 (-v))
 then (bif (decide
 (0 + List.length ((S.turnS hr nl (fun (j : Nat) => tl (j + al)) v).2.2) ≤
 List.length ((S.turnS hr nl (fun (j : Nat) => tl (j + al)) v).2.2) ∧
 List.length ((S.turnS hr nl (fun (j : Nat) => tl (j + al)) v).2.2) ≤ 1000000))
 then (bif (Prod.fst
 (Prod.snd
 (S.turnS ((S.turnS hr nl (fun (j : Nat) => tl (j + al)) v).1)
 (List.length ((S.turnS hr nl (fun (j : Nat) => tl (j + al)) v).2.2))
 (fun (j : Nat) => S.at' ((S.turnS hr nl (fun (j : Nat) => tl (j + al)) v).2.2) j)
 (-v))) ==
 (0 : Int))
 then (bif (decide
 (0 +
 List.length
 (Prod.snd
 (Prod.snd
 (S.turnS ((S.turnS hr nl (fun (j : Nat) => tl (j + al)) v).1)
 (List.length ((S.turnS hr nl (fun (j : Nat) => tl (j + al)) v).2.2))
 (fun (j : Nat) =>
 S.at' ((S.turnS hr nl (fun (j : Nat) => tl (j + al)) v).2.2) j)
 (-v)))) ≤
 List.length
 (Prod.snd
 (Prod.snd
 (S.turnS ((S.turnS hr nl (fun (j : Nat) => tl (j + al)) v).1)
 (List.length ((S.turnS hr nl (fun (j : Nat) => tl (j + al)) v).2.2))
 (fun (j : Nat) =>
 S.at' ((S.turnS hr nl (fun (j : Nat) => tl (j + al)) v).2.2) j)
 (-v)))) ∧
 List.length
 (Prod.snd
 (Prod.snd
 (S.turnS ((S.turnS hr nl (fun (j : Nat) => tl (j + al)) v).1)
 (List.length ((S.turnS hr nl (fun (j : Nat) => tl (j + al)) v).2.2))
 (fun (j : Nat) =>
 S.at' ((S.turnS hr nl (fun (j : Nat) => tl (j + al)) v).2.2) j)
 (-v)))) ≤
 1000000 ∧
 al + nl ≤ ml ∧ nl ≤ 1000000))
 then (bif (decide
 (Prod.fst
 (S.turnS ((S.turnS hr nl (fun (j : Nat) => tl (j + al)) v).1)
 (List.length ((S.turnS hr nl (fun (j : Nat) => tl (j + al)) v).2.2))
 (fun (j : Nat) => S.at' ((S.turnS hr nl (fun (j : Nat) => tl (j + al)) v).2.2) j)
 (-v)) =
 hr) &&
 decide
 ((S.mkl
 (List.length
 (Prod.snd
 (Prod.snd
 (S.turnS ((S.turnS hr nl (fun (j : Nat) => tl (j + al)) v).1)
 (List.length ((S.turnS hr nl (fun (j : Nat) => tl (j + al)) v).2.2))
 (fun (j : Nat) =>
 S.at' ((S.turnS hr nl (fun (j : Nat) => tl (j + al)) v).2.2) j)
 (-v)))))
 fun (j : Nat) =>
 S.at'
 (Prod.snd
 (Prod.snd
 (S.turnS ((S.turnS hr nl (fun (j : Nat) => tl (j + al)) v).1)
 (List.length ((S.turnS hr nl (fun (j : Nat) => tl (j + al)) v).2.2))
 (fun (j : Nat) =>
 S.at' ((S.turnS hr nl (fun (j : Nat) => tl (j + al)) v).2.2) j)
 (-v))))
 j) =
 S.mkl nl fun (j : Nat) => tl (j + al)))
 then (some (.inr (true)))
 else (some (.inr (false))))
 else (none))
 else (some (.inr (false))))
 else (none))
 else (none)))
 else (bif ((S.turnS hr nl (fun (j : Nat) => tl (j + al)) v).2.1 ==
 (S.turnS hr nl (fun (j : Nat) => tl (j + al)) v).2.1)
 then (some (.inr (false)))
 else (some (.inr (false)))))
 else (none)))
 else (none))
 else (none))
 else (some (.inr (true))) : Option (St7 ⊕ Rt7)) = some x) : Te7 cond Kst Kret hr al nl ml tl v := by
  unfold Te7
  exact cond_yes rfl (cond_yes rfl (bif_split h
   (fun c0 h => bif_split h
   (fun c1 h => bif_split h
   (fun c2 h => cond_yes c1 (bif_split h
   (fun c3 h => bif_split h
   (fun c4 h => bif_split h
   (fun c5 h => bif_split h
   (fun c6 h => ret_at hR _ h (fun n => n) rfl rfl rfl (rn_bool_tf rfl) rfl (entl_bor (use_lo rfl) rfl rfl entl_nil))
   (fun c6 h => ret_at hR _ h (fun n => n) rfl rfl rfl (rn_bool_tf rfl) rfl (entl_bor (use_lo rfl) rfl rfl entl_nil)))
   (fun c5 h => no_some h))
   (fun c4 h => ret_at hR _ h (fun n => n) rfl rfl rfl (rn_bool_tf rfl) rfl (entl_bor (use_lo rfl) rfl rfl entl_nil)))
   (fun c3 h => bif_split h
   (fun c4 h => bif_split h
   (fun c5 h => bif_split h
   (fun c6 h => bif_split h
   (fun c7 h => cond_yes c4 (cond_yes c5 (ret_at hR _ h (fun n => n) rfl rfl rfl (rn_bool_tf rfl) rfl (entl_bor (use_lo rfl) rfl rfl entl_nil))))
   (fun c7 h => ret_at hR _ h (fun n => n) rfl rfl rfl (rn_bool_tf rfl) rfl (entl_bor (use_lo rfl) rfl rfl entl_nil)))
   (fun c6 h => bif_split h
   (fun c7 h => bif_split h
   (fun c8 h => bif_split h
   (fun c9 h => bif_split h
   (fun c10 h => bif_split h
   (fun c11 h => ret_at hR _ h (fun n => n) rfl rfl rfl (rn_bool_tf rfl) rfl (entl_bor (use_lo rfl) rfl rfl entl_nil))
   (fun c11 h => ret_at hR _ h (fun n => n) rfl rfl rfl (rn_bool_tf rfl) rfl (entl_bor (use_lo rfl) rfl rfl entl_nil)))
   (fun c10 h => no_some h))
   (fun c9 h => ret_at hR _ h (fun n => n) rfl rfl rfl (rn_bool_tf rfl) rfl (entl_bor (use_lo rfl) rfl rfl entl_nil)))
   (fun c8 h => no_some h))
   (fun c7 h => no_some h)))
   (fun c5 h => bif_split h
   (fun c6 h => cond_yes c4 (cond_no c5 (ret_at hR _ h (fun n => n) rfl rfl rfl (rn_bool_tf rfl) rfl (entl_bor (use_lo rfl) rfl rfl entl_nil))))
   (fun c6 h => ret_at hR _ h (fun n => n) rfl rfl rfl (rn_bool_tf rfl) rfl (entl_bor (use_lo rfl) rfl rfl entl_nil))))
   (fun c4 h => no_some h))))
   (fun c2 h => no_some h))
   (fun c1 h => no_some h))
   (fun c0 h => cond_yes rfl (cond_yes rfl (ret_at hR _ h (fun n => n) rfl rfl rfl (rn_bool_tf rfl) rfl (entl_bor (use_lo rfl) rfl rfl entl_nil))))))
theorem a7 (hr : Int) (al nl ml : Nat) (tl : Nat → Int) (v : Int) {r : Rt7} (h : Goes ((q7 hr al nl ml tl v)) ((p7 hr al nl ml tl v)) r) : CallR Try.prog 7 [.agg [.int .i64 hr, .loose ⟨0, 1, al, 0⟩ nl], .int .i64 v] [[(0, (false, .cols ml [.int .i64 tl]))]] 1 ((V7 hr al nl ml tl v) r) ((fun r => [newL (1 + 1) ((N7 hr al nl ml tl v) r) ++ [(0, (false, .cols ml [.int .i64 tl]))]]) r) 400 ∧ ∃ F, Try.prog.funcs[7]? = some F ∧ F.body.isSome = true ∧ (F.name == "runtime.NumGoroutine") = false := by
  refine dec_calls (f := 7) (lo := 1) (hi := 400) (H := [[(0, (false, .cols ml [.int .i64 tl]))]]) (args := [.agg [.int .i64 hr, .loose ⟨0, 1, al, 0⟩ nl], .int .i64 v]) Try.envOk Try.mixed xU_ok ((I7 hr al nl ml tl v)) ((V7 hr al nl ml tl v)) (fun r => [newL (1 + 1) ((N7 hr al nl ml tl v) r) ++ [(0, (false, .cols ml [.int .i64 tl]))]]) (fn := mkFn Try.f7) (ts := []) (n := 400) rfl (by decide) (by simp) (names_of rfl) ?_ ?_ ?_ h
  · intro s; exact s.elim
  · intro Kst Kret x hS hR h
    exact Holds.eq (te7 cond Kst Kret hr al nl ml tl v) (be7 hr al nl ml tl v Kst Kret x hS hR h)
  · intro Kst Kret x hS hR s h; exact s.elim
noncomputable def k7 : Con := ⟨7, [.agg [.plain (.int .i64), .list [.int .i64]], .one (.plain (.int .i64))], fun (x : (Int × (Nat × Nat × Nat × (Nat → Int) × Unit) × Unit) × Int × Unit) => (fun (hr : Int) (al nl ml : Nat) (tl : Nat → Int) (v : Int) => decide (al + nl ≤ ml)) x.1.1 x.1.2.1.1 x.1.2.1.2.1 x.1.2.1.2.2.1 x.1.2.1.2.2.2.1 x.2.1, fun (x : (Int × (Nat × Nat × Nat × (Nat → Int) × Unit) × Unit) × Int × Unit) => (fun (hr : Int) (al nl ml : Nat) (tl : Nat → Int) (v : Int) => (V7 hr al nl ml tl v) (true)) x.1.1 x.1.2.1.1 x.1.2.1.2.1 x.1.2.1.2.2.1 x.1.2.1.2.2.2.1 x.2.1, fun (x : (Int × (Nat × Nat × Nat × (Nat → Int) × Unit) × Unit) × Int × Unit) => (fun (hr : Int) (al nl ml : Nat) (tl : Nat → Int) (v : Int) => (N7 hr al nl ml tl v) (true)) x.1.1 x.1.2.1.1 x.1.2.1.2.1 x.1.2.1.2.2.1 x.1.2.1.2.2.2.1 x.2.1, fun _ _ => .dead⟩
theorem s7 (hr : Int) (al nl ml : Nat) (tl : Nat → Int) (v : Int) (hp : al + nl ≤ ml) : Goes ((q7 hr al nl ml tl v)) ((p7 hr al nl ml tl v)) (true) := by
  unfold p7
  by_cases hn : nl ≤ 2100
  · obtain ⟨h1, h2⟩ := turn_law (h := hr) (v := v) (n := nl) (t := (fun j => tl (j + al))) hn
    generalize (S.turnS hr nl (fun j => tl (j + al)) v) = P at *
    rcases h2 with h2 | ⟨h2, h3, h4⟩
    · repeat' first
        | with_reducible exact goes_inr.mpr rfl
        | (refine goes_if (fun h => ?_) (fun h => ?_))
      all_goals first | rfl | (exfalso; simp_all; done) | (exfalso; simp at h; omega)
    · rw [h4]
      dsimp only
      rw [mkl_len, show (S.mkl nl fun j => S.at' (S.mkl nl (fun j => tl (j + al))) j) = S.mkl nl (fun j => tl (j + al)) from mkl_congr fun j hj => at_mkl hj]
      have h6 : (P.2.1 != 0) = false := by rw [h2]; rfl
      repeat' first
        | with_reducible exact goes_inr.mpr rfl
        | (refine goes_ok ?_ ?_; focus (first | with_reducible exact beq_self_eq_true _ | (simp only [Bool.and_eq_true, decide_eq_true_eq, and_self, eq_self]; done) | with_reducible exact decide_eq_true trivial | with_reducible exact decide_eq_true rfl | (simp only [eq_self, decide_true, Bool.and_self, Bool.and_true, Bool.true_and]; done) | (apply decide_eq_true; omega) | (rw [lim64]; apply decide_eq_true; omega) | (apply decide_eq_true; simp only [mkl_len, mkl_zero, List.length_nil, true_and, and_true, and_self, Nat.zero_add, Nat.add_zero, Nat.le_refl]; done) | (apply decide_eq_true; simp only [mkl_len, mkl_zero, List.length_nil, true_and, and_true, and_self, Nat.zero_add, Nat.add_zero, Nat.le_refl]; omega) | decide))
        | (refine goes_no ?_ ?_; focus (first | with_reducible exact bne_self_eq_false _ | (apply decide_eq_false; omega) | decide | exact h6))
  · have hd : decide ((nl : Int) ≤ 2100) = false := decide_eq_false (by omega)
    rw [hd]
    exact goes_inr.mpr rfl

theorem k7_ok : k7.ok Try.prog := by
  intro x hx
  obtain ⟨⟨hr, ⟨al, nl, ml, tl, _⟩, _⟩, v, _⟩ := x
  obtain ⟨h1, h2⟩ := a7 hr al nl ml tl v (s7 hr al nl ml tl v (of_dec hx rfl))
  exact ⟨⟨400, (by decide : 1 + 1 + 0 ≤ 400), h1⟩, h2⟩

end Go.Ev
