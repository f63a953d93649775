/-
  The law of Above.
-/
import Derived.Test.YtffldkecndnbiaaG2x
namespace Go.Ev
open Go.Proofs
set_option linter.unusedVariables false
set_option linter.unusedSimpArgs false
set_option maxRecDepth 100000

theorem byte_mk {x : Int} (h : 0 ≤ x ∧ x ≤ 255) : S.byte x = true := decide_eq_true h
theorem bytes_mk {n : Nat} {t : Nat → Int} (h : ∀ j, j < n → 0 ≤ t j ∧ t j ≤ 255) : S.bytes n t = true := decide_eq_true h
theorem u32s_mk {n : Nat} {t : Nat → Int} (h : ∀ j, j < n → 0 ≤ t j ∧ t j ≤ 4294967295) : S.u32s n t = true := decide_eq_true h
theorem cho_any {l : Nat → Bool} {x : Nat} : ∀ {n : Nat}, x < n → S.any (fun q => decide (S.at' (S.cho l n) q = (x : Int))) (S.cho l n).length = l x := by
  intro n hx
  by_cases h : l x = true
  · obtain ⟨q, h1, h2⟩ := cho_ex hx h
    rw [h]
    exact any_iff.mpr ⟨q, h1, decide_eq_true h2⟩
  · rw [Bool.not_eq_true] at h
    rw [h, any_no]
    intro q hq
    obtain ⟨y, h1, h2, h3⟩ := cho_mem hq
    apply decide_eq_false
    rw [h2]
    intro e
    obtain rfl : y = x := by omega
    rw [h] at h3; cases h3
theorem com_is {p : Nat → Int} {a x : Nat} : S.com p a x = a ↔ S.abv p a x = true := by
  constructor
  · intro h
    by_cases hb : S.abv p a x = true
    · exact hb
    · rw [Bool.not_eq_true] at hb
      have h0 : 0 < a := by
        rcases Nat.eq_zero_or_pos a with h1 | h1
        · subst h1; rw [abv_root] at hb; cases hb
        · exact h1
      rw [com_up hb] at h
      have h1 := (com_le (p := p) (x := x) (S.par p a)).1
      have h2 := par_lt (p := p) h0
      omega
  · exact com_yes
inductive St10 where
  | h0 (x0 : Int) (x1 : Int) (x2 : List (Int × Int × Int × Int))
  | h1 (x0 : Int) (x1 : Int) (x2 : Int) (x3 : List (Int × Int × Int × Int))
abbrev Rt10 := Bool
noncomputable def V10 (al nl ml : Nat) (tl : Nat → Int) (u : Int) (v : Int) (r : Rt10) : PV := PV.bool r
noncomputable def N10 (al nl ml : Nat) (tl : Nat → Int) (u : Int) (v : Int) (r : Rt10) : List Blk := []
noncomputable def I10 (al nl ml : Nat) (tl : Nat → Int) (u : Int) (v : Int) : St10 → Hd
  | .h0 x0 x1 x2 => ⟨hd Try.f10 0, [PV.ptr (PA.mk (1) (0) (0) (0)),
 PV.int IntKind.i64 (Int.tmod u (↑(List.length (S.mdL nl fun (q : Nat) => tl (q + al))) : Int)),
 PV.int IntKind.i64 (Int.tmod v (↑(List.length (S.mdL nl fun (q : Nat) => tl (q + al))) : Int)),
 PV.int IntKind.i64
 (Prod.fst
 (S.comS (List.length (S.mdL nl fun (q : Nat) => tl (q + al)))
 (fun (q : Nat) => (S.at' (S.mdL nl fun (q : Nat) => tl (q + al)) q).1)
 (fun (q : Nat) => (S.at' (S.mdL nl fun (q : Nat) => tl (q + al)) q).2.1)
 (fun (q : Nat) => (S.at' (S.mdL nl fun (q : Nat) => tl (q + al)) q).2.2.1)
 (fun (q : Nat) => (S.at' (S.mdL nl fun (q : Nat) => tl (q + al)) q).2.2.2)
 (Int.tmod u (↑(List.length (S.mdL nl fun (q : Nat) => tl (q + al))) : Int))
 (Int.tmod v (↑(List.length (S.mdL nl fun (q : Nat) => tl (q + al))) : Int)))),
 PV.int IntKind.i64 x0, PV.int IntKind.i64 x1, PV.unk], [[(1, (true, Blk.cells [PV.own (2) (4) (List.length x2)])), (2, (true, Blk.cols (List.length x2)
 [Col.int IntKind.i64 fun (j : Nat) => (S.at' x2 j).1,
 Col.int IntKind.i64 fun (j : Nat) => (S.at' x2 j).2.1,
 Col.int IntKind.i64 fun (j : Nat) => (S.at' x2 j).2.2.1,
 Col.int IntKind.i64 fun (j : Nat) => (S.at' x2 j).2.2.2]))], [(0, (false, .cols ml [.int .u32 tl]))]], 3⟩
  | .h1 x0 x1 x2 x3 => ⟨hd Try.f10 1, [PV.ptr (PA.mk (1) (0) (0) (0)),
 PV.int IntKind.i64 (Int.tmod u (↑(List.length (S.mdL nl fun (q : Nat) => tl (q + al))) : Int)),
 PV.int IntKind.i64 (Int.tmod v (↑(List.length (S.mdL nl fun (q : Nat) => tl (q + al))) : Int)),
 PV.int IntKind.i64
 (Prod.fst
 (S.comS (List.length (S.mdL nl fun (q : Nat) => tl (q + al)))
 (fun (q : Nat) => (S.at' (S.mdL nl fun (q : Nat) => tl (q + al)) q).1)
 (fun (q : Nat) => (S.at' (S.mdL nl fun (q : Nat) => tl (q + al)) q).2.1)
 (fun (q : Nat) => (S.at' (S.mdL nl fun (q : Nat) => tl (q + al)) q).2.2.1)
 (fun (q : Nat) => (S.at' (S.mdL nl fun (q : Nat) => tl (q + al)) q).2.2.2)
 (Int.tmod u (↑(List.length (S.mdL nl fun (q : Nat) => tl (q + al))) : Int))
 (Int.tmod v (↑(List.length (S.mdL nl fun (q : Nat) => tl (q + al))) : Int)))),
 PV.int IntKind.i64 x0, PV.int IntKind.i64 x1, PV.int IntKind.i64 x2], [[(1, (true, Blk.cells [PV.own (2) (4) (List.length x3)])), (2, (true, Blk.cols (List.length x3)
 [Col.int IntKind.i64 fun (j : Nat) => (S.at' x3 j).1,
 Col.int IntKind.i64 fun (j : Nat) => (S.at' x3 j).2.1,
 Col.int IntKind.i64 fun (j : Nat) => (S.at' x3 j).2.2.1,
 Col.int IntKind.i64 fun (j : Nat) => (S.at' x3 j).2.2.2]))], [(0, (false, .cols ml [.int .u32 tl]))]], 3⟩
noncomputable def q10 (al nl ml : Nat) (tl : Nat → Int) (u : Int) (v : Int) : St10 → Option (St10 ⊕ Rt10)
  | .h0 x0 x1 x2 => bif (decide (x1 ≥ (0 : Int)))
 then (some (.inl (.h1 (x0) (x1) (Int.tmod v (↑(List.length (S.mdL nl fun (q : Nat) => tl (q + al))) : Int)) (x2))))
 else (bif (Prod.fst
 (S.comS (List.length (S.mdL nl fun (q : Nat) => tl (q + al)))
 (fun (q : Nat) => (S.at' (S.mdL nl fun (q : Nat) => tl (q + al)) q).1)
 (fun (q : Nat) => (S.at' (S.mdL nl fun (q : Nat) => tl (q + al)) q).2.1)
 (fun (q : Nat) => (S.at' (S.mdL nl fun (q : Nat) => tl (q + al)) q).2.2.1)
 (fun (q : Nat) => (S.at' (S.mdL nl fun (q : Nat) => tl (q + al)) q).2.2.2)
 (Int.tmod u (↑(List.length (S.mdL nl fun (q : Nat) => tl (q + al))) : Int))
 (Int.tmod v (↑(List.length (S.mdL nl fun (q : Nat) => tl (q + al))) : Int))) !=
 x0)
 then (some (.inr (false)))
 else (bif (Int.tmod u (↑(List.length (S.mdL nl fun (q : Nat) => tl (q + al))) : Int) == (0 : Int))
 then (some (.inr (true)))
 else (bif (decide (0 + List.length x2 ≤ List.length x2 ∧ List.length x2 ≤ 1000000))
 then (bif (Prod.fst
 (S.cutS (List.length x2) (fun (q : Nat) => (S.at' x2 q).1)
 (fun (q : Nat) => (S.at' x2 q).2.1)
 (fun (q : Nat) => (S.at' x2 q).2.2.1)
 (fun (q : Nat) => (S.at' x2 q).2.2.2)
 (Int.tmod u (↑(List.length (S.mdL nl fun (q : Nat) => tl (q + al))) : Int))) ==
 (0 : Int))
 then (bif (decide
 (0 +
 List.length
 (Prod.snd
 (S.cutS (List.length x2) (fun (q : Nat) => (S.at' x2 q).1)
 (fun (q : Nat) => (S.at' x2 q).2.1)
 (fun (q : Nat) => (S.at' x2 q).2.2.1)
 (fun (q : Nat) => (S.at' x2 q).2.2.2)
 (Int.tmod u (↑(List.length (S.mdL nl fun (q : Nat) => tl (q + al))) : Int)))) ≤
 List.length
 (Prod.snd
 (S.cutS (List.length x2) (fun (q : Nat) => (S.at' x2 q).1)
 (fun (q : Nat) => (S.at' x2 q).2.1)
 (fun (q : Nat) => (S.at' x2 q).2.2.1)
 (fun (q : Nat) => (S.at' x2 q).2.2.2)
 (Int.tmod u (↑(List.length (S.mdL nl fun (q : Nat) => tl (q + al))) : Int)))) ∧
 List.length
 (Prod.snd
 (S.cutS (List.length x2) (fun (q : Nat) => (S.at' x2 q).1)
 (fun (q : Nat) => (S.at' x2 q).2.1)
 (fun (q : Nat) => (S.at' x2 q).2.2.1)
 (fun (q : Nat) => (S.at' x2 q).2.2.2)
 (Int.tmod u (↑(List.length (S.mdL nl fun (q : Nat) => tl (q + al))) : Int)))) ≤
 1000000))
 then (bif (S.any
 (fun (j : Nat) =>
 decide
 (S.at'
 (Prod.snd
 (S.cutS (List.length x2) (fun (q : Nat) => (S.at' x2 q).1)
 (fun (q : Nat) => (S.at' x2 q).2.1)
 (fun (q : Nat) => (S.at' x2 q).2.2.1)
 (fun (q : Nat) => (S.at' x2 q).2.2.2)
 (Int.tmod u (↑(List.length (S.mdL nl fun (q : Nat) => tl (q + al))) : Int))))
 j =
 Int.tmod v (↑(List.length (S.mdL nl fun (q : Nat) => tl (q + al))) : Int)))
 (List.length
 (Prod.snd
 (S.cutS (List.length x2) (fun (q : Nat) => (S.at' x2 q).1)
 (fun (q : Nat) => (S.at' x2 q).2.1)
 (fun (q : Nat) => (S.at' x2 q).2.2.1)
 (fun (q : Nat) => (S.at' x2 q).2.2.2)
 (Int.tmod u (↑(List.length (S.mdL nl fun (q : Nat) => tl (q + al))) : Int))))))
 then (bif (Prod.fst
 (S.comS (List.length (S.mdL nl fun (q : Nat) => tl (q + al)))
 (fun (q : Nat) => (S.at' (S.mdL nl fun (q : Nat) => tl (q + al)) q).1)
 (fun (q : Nat) => (S.at' (S.mdL nl fun (q : Nat) => tl (q + al)) q).2.1)
 (fun (q : Nat) => (S.at' (S.mdL nl fun (q : Nat) => tl (q + al)) q).2.2.1)
 (fun (q : Nat) => (S.at' (S.mdL nl fun (q : Nat) => tl (q + al)) q).2.2.2)
 (Int.tmod u (↑(List.length (S.mdL nl fun (q : Nat) => tl (q + al))) : Int))
 (Int.tmod v (↑(List.length (S.mdL nl fun (q : Nat) => tl (q + al))) : Int))) ==
 Int.tmod u (↑(List.length (S.mdL nl fun (q : Nat) => tl (q + al))) : Int))
 then (some (.inr (true)))
 else (some (.inr (false))))
 else (bif (Prod.fst
 (S.comS (List.length (S.mdL nl fun (q : Nat) => tl (q + al)))
 (fun (q : Nat) => (S.at' (S.mdL nl fun (q : Nat) => tl (q + al)) q).1)
 (fun (q : Nat) => (S.at' (S.mdL nl fun (q : Nat) => tl (q + al)) q).2.1)
 (fun (q : Nat) => (S.at' (S.mdL nl fun (q : Nat) => tl (q + al)) q).2.2.1)
 (fun (q : Nat) => (S.at' (S.mdL nl fun (q : Nat) => tl (q + al)) q).2.2.2)
 (Int.tmod u (↑(List.length (S.mdL nl fun (q : Nat) => tl (q + al))) : Int))
 (Int.tmod v (↑(List.length (S.mdL nl fun (q : Nat) => tl (q + al))) : Int))) ==
 Int.tmod u (↑(List.length (S.mdL nl fun (q : Nat) => tl (q + al))) : Int))
 then (some (.inr (false)))
 else (some (.inr (true)))))
 else (none))
 else (some (.inr (false))))
 else (none))))
  | .h1 x0 x1 x2 x3 => bif (decide (x2 ≥ (0 : Int)))
 then (bif (x1 == x2)
 then (bif (decide ((0 : Int) ≤ x2 ∧ x2 < (↑(List.length x3) : Int)))
 then (bif (decide (Int.toNat x2 < List.length x3))
 then (some (.inl (.h1 (Max.max x0 x1) (x1) ((S.at' x3 (Int.toNat x2)).1) (x3))))
 else (none))
 else (none))
 else (bif (decide ((0 : Int) ≤ x2 ∧ x2 < (↑(List.length x3) : Int)))
 then (bif (decide (Int.toNat x2 < List.length x3))
 then (some (.inl (.h1 (x0) (x1) ((S.at' x3 (Int.toNat x2)).1) (x3))))
 else (none))
 else (none)))
 else (bif (decide ((0 : Int) ≤ x1 ∧ x1 < (↑(List.length x3) : Int)))
 then (bif (decide (Int.toNat x1 < List.length x3))
 then (some (.inl (.h0 (x0) ((S.at' x3 (Int.toNat x1)).1) (x3))))
 else (none))
 else (none))
noncomputable def p10 (al nl ml : Nat) (tl : Nat → Int) (u : Int) (v : Int) : Option (St10 ⊕ Rt10) := bif (decide ((↑nl : Int) > (30 : Int)))
 then (some (.inr (true)))
 else (bif (decide (al + nl ≤ ml ∧ nl ≤ 1000000 ∧ (S.u32s nl fun (q : Nat) => tl (q + al)) = true))
 then (bif (lim IntKind.i64 u)
 then (bif (decide ((↑(List.length (S.mdL nl fun (q : Nat) => tl (q + al))) : Int) = (0 : Int)))
 then (none)
 else (bif (lim IntKind.i64 v)
 then (bif (decide
 (0 + List.length (S.mdL nl fun (q : Nat) => tl (q + al)) ≤
 List.length (S.mdL nl fun (q : Nat) => tl (q + al)) ∧
 List.length (S.mdL nl fun (q : Nat) => tl (q + al)) ≤ 1000000))
 then (bif (Prod.snd
 (S.comS (List.length (S.mdL nl fun (q : Nat) => tl (q + al)))
 (fun (q : Nat) => (S.at' (S.mdL nl fun (q : Nat) => tl (q + al)) q).1)
 (fun (q : Nat) => (S.at' (S.mdL nl fun (q : Nat) => tl (q + al)) q).2.1)
 (fun (q : Nat) => (S.at' (S.mdL nl fun (q : Nat) => tl (q + al)) q).2.2.1)
 (fun (q : Nat) => (S.at' (S.mdL nl fun (q : Nat) => tl (q + al)) q).2.2.2)
 (Int.tmod u (↑(List.length (S.mdL nl fun (q : Nat) => tl (q + al))) : Int))
 (Int.tmod v (↑(List.length (S.mdL nl fun (q : Nat) => tl (q + al))) : Int))) !=
 (0 : Int))
 then (some (.inr (false)))
 else (bif (Prod.snd
 (S.comS (List.length (S.mdL nl fun (q : Nat) => tl (q + al)))
 (fun (q : Nat) => (S.at' (S.mdL nl fun (q : Nat) => tl (q + al)) q).1)
 (fun (q : Nat) => (S.at' (S.mdL nl fun (q : Nat) => tl (q + al)) q).2.1)
 (fun (q : Nat) => (S.at' (S.mdL nl fun (q : Nat) => tl (q + al)) q).2.2.1)
 (fun (q : Nat) => (S.at' (S.mdL nl fun (q : Nat) => tl (q + al)) q).2.2.2)
 (Int.tmod v (↑(List.length (S.mdL nl fun (q : Nat) => tl (q + al))) : Int))
 (Int.tmod u (↑(List.length (S.mdL nl fun (q : Nat) => tl (q + al))) : Int))) !=
 (0 : Int))
 then (some (.inr (false)))
 else (bif (Prod.fst
 (S.comS (List.length (S.mdL nl fun (q : Nat) => tl (q + al)))
 (fun (q : Nat) => (S.at' (S.mdL nl fun (q : Nat) => tl (q + al)) q).1)
 (fun (q : Nat) => (S.at' (S.mdL nl fun (q : Nat) => tl (q + al)) q).2.1)
 (fun (q : Nat) => (S.at' (S.mdL nl fun (q : Nat) => tl (q + al)) q).2.2.1)
 (fun (q : Nat) => (S.at' (S.mdL nl fun (q : Nat) => tl (q + al)) q).2.2.2)
 (Int.tmod u (↑(List.length (S.mdL nl fun (q : Nat) => tl (q + al))) : Int))
 (Int.tmod v (↑(List.length (S.mdL nl fun (q : Nat) => tl (q + al))) : Int))) !=
 Prod.fst
 (S.comS (List.length (S.mdL nl fun (q : Nat) => tl (q + al)))
 (fun (q : Nat) => (S.at' (S.mdL nl fun (q : Nat) => tl (q + al)) q).1)
 (fun (q : Nat) => (S.at' (S.mdL nl fun (q : Nat) => tl (q + al)) q).2.1)
 (fun (q : Nat) => (S.at' (S.mdL nl fun (q : Nat) => tl (q + al)) q).2.2.1)
 (fun (q : Nat) => (S.at' (S.mdL nl fun (q : Nat) => tl (q + al)) q).2.2.2)
 (Int.tmod v (↑(List.length (S.mdL nl fun (q : Nat) => tl (q + al))) : Int))
 (Int.tmod u (↑(List.length (S.mdL nl fun (q : Nat) => tl (q + al))) : Int))))
 then (some (.inr (false)))
 else (some (.inl (.h0 ((0 : Int)) (Int.tmod u (↑(List.length (S.mdL nl fun (q : Nat) => tl (q + al))) : Int)) (S.mdL nl fun (q : Nat) => tl (q + al))))))))
 else (none))
 else (none)))
 else (none))
 else (none))
noncomputable def Te10 (test : Bool → Prop → Prop → Prop) (Kst : KS) (Kret : KR) (al nl ml : Nat) (tl : Nat → Int) (u : Int) (v : Int) : Prop :=
  test (true)
 (test (true)
 (test (decide ((↑nl : Int) > (30 : Int)))
 (test (true)
 (test (true)
 (Kret (PV.tf true) ([[(0, false, Blk.cols ml [Col.int IntKind.u32 tl])]]) (3))
 (Kret (PV.tf false) ([[(0, false, Blk.cols ml [Col.int IntKind.u32 tl])]]) (3)))
 (False))
 (test (decide (al + nl ≤ ml ∧ nl ≤ 1000000 ∧ (S.u32s nl fun (q : Nat) => tl (q + al)) = true))
 (test (lim IntKind.i64 u)
 (test (decide ((↑(List.length (S.mdL nl fun (q : Nat) => tl (q + al))) : Int) = (0 : Int)))
 (False)
 (test (lim IntKind.i64 v)
 (test (decide ((↑(List.length (S.mdL nl fun (q : Nat) => tl (q + al))) : Int) = (0 : Int)))
 (False)
 (test (decide
 (0 + List.length (S.mdL nl fun (q : Nat) => tl (q + al)) ≤
 List.length (S.mdL nl fun (q : Nat) => tl (q + al)) ∧
 List.length (S.mdL nl fun (q : Nat) => tl (q + al)) ≤ 1000000))
 (test (decide
 (0 + List.length (S.mdL nl fun (q : Nat) => tl (q + al)) ≤
 List.length (S.mdL nl fun (q : Nat) => tl (q + al)) ∧
 List.length (S.mdL nl fun (q : Nat) => tl (q + al)) ≤ 1000000))
 (test (Prod.snd
 (S.comS (List.length (S.mdL nl fun (q : Nat) => tl (q + al)))
 (fun (q : Nat) => (S.at' (S.mdL nl fun (q : Nat) => tl (q + al)) q).1)
 (fun (q : Nat) => (S.at' (S.mdL nl fun (q : Nat) => tl (q + al)) q).2.1)
 (fun (q : Nat) => (S.at' (S.mdL nl fun (q : Nat) => tl (q + al)) q).2.2.1)
 (fun (q : Nat) => (S.at' (S.mdL nl fun (q : Nat) => tl (q + al)) q).2.2.2)
 (Int.tmod u (↑(List.length (S.mdL nl fun (q : Nat) => tl (q + al))) : Int))
 (Int.tmod v (↑(List.length (S.mdL nl fun (q : Nat) => tl (q + al))) : Int))) !=
 (0 : Int))
 (Kret (PV.tf false) ([[(0, false, Blk.cols ml [Col.int IntKind.u32 tl])]]) (7))
 (test (Prod.snd
 (S.comS (List.length (S.mdL nl fun (q : Nat) => tl (q + al)))
 (fun (q : Nat) => (S.at' (S.mdL nl fun (q : Nat) => tl (q + al)) q).1)
 (fun (q : Nat) => (S.at' (S.mdL nl fun (q : Nat) => tl (q + al)) q).2.1)
 (fun (q : Nat) => (S.at' (S.mdL nl fun (q : Nat) => tl (q + al)) q).2.2.1)
 (fun (q : Nat) => (S.at' (S.mdL nl fun (q : Nat) => tl (q + al)) q).2.2.2)
 (Int.tmod v (↑(List.length (S.mdL nl fun (q : Nat) => tl (q + al))) : Int))
 (Int.tmod u (↑(List.length (S.mdL nl fun (q : Nat) => tl (q + al))) : Int))) !=
 (0 : Int))
 (Kret (PV.tf false) ([[(0, false, Blk.cols ml [Col.int IntKind.u32 tl])]]) (7))
 (test (Prod.fst
 (S.comS (List.length (S.mdL nl fun (q : Nat) => tl (q + al)))
 (fun (q : Nat) => (S.at' (S.mdL nl fun (q : Nat) => tl (q + al)) q).1)
 (fun (q : Nat) => (S.at' (S.mdL nl fun (q : Nat) => tl (q + al)) q).2.1)
 (fun (q : Nat) => (S.at' (S.mdL nl fun (q : Nat) => tl (q + al)) q).2.2.1)
 (fun (q : Nat) => (S.at' (S.mdL nl fun (q : Nat) => tl (q + al)) q).2.2.2)
 (Int.tmod u (↑(List.length (S.mdL nl fun (q : Nat) => tl (q + al))) : Int))
 (Int.tmod v (↑(List.length (S.mdL nl fun (q : Nat) => tl (q + al))) : Int))) !=
 Prod.fst
 (S.comS (List.length (S.mdL nl fun (q : Nat) => tl (q + al)))
 (fun (q : Nat) => (S.at' (S.mdL nl fun (q : Nat) => tl (q + al)) q).1)
 (fun (q : Nat) => (S.at' (S.mdL nl fun (q : Nat) => tl (q + al)) q).2.1)
 (fun (q : Nat) => (S.at' (S.mdL nl fun (q : Nat) => tl (q + al)) q).2.2.1)
 (fun (q : Nat) => (S.at' (S.mdL nl fun (q : Nat) => tl (q + al)) q).2.2.2)
 (Int.tmod v (↑(List.length (S.mdL nl fun (q : Nat) => tl (q + al))) : Int))
 (Int.tmod u (↑(List.length (S.mdL nl fun (q : Nat) => tl (q + al))) : Int))))
 (Kret (PV.tf false) ([[(0, false, Blk.cols ml [Col.int IntKind.u32 tl])]]) (7))
 (Kst (hd Try.f10 0) ([PV.ptr (PA.mk (4) (0) (0) (0)),
 PV.int IntKind.i64 (Int.tmod u (↑(List.length (S.mdL nl fun (q : Nat) => tl (q + al))) : Int)),
 PV.int IntKind.i64 (Int.tmod v (↑(List.length (S.mdL nl fun (q : Nat) => tl (q + al))) : Int)),
 PV.int IntKind.i64
 (Prod.fst
 (S.comS (List.length (S.mdL nl fun (q : Nat) => tl (q + al)))
 (fun (q : Nat) => (S.at' (S.mdL nl fun (q : Nat) => tl (q + al)) q).1)
 (fun (q : Nat) => (S.at' (S.mdL nl fun (q : Nat) => tl (q + al)) q).2.1)
 (fun (q : Nat) => (S.at' (S.mdL nl fun (q : Nat) => tl (q + al)) q).2.2.1)
 (fun (q : Nat) => (S.at' (S.mdL nl fun (q : Nat) => tl (q + al)) q).2.2.2)
 (Int.tmod u (↑(List.length (S.mdL nl fun (q : Nat) => tl (q + al))) : Int))
 (Int.tmod v (↑(List.length (S.mdL nl fun (q : Nat) => tl (q + al))) : Int)))),
 PV.int IntKind.i64 (0 : Int),
 PV.int IntKind.i64 (Int.tmod u (↑(List.length (S.mdL nl fun (q : Nat) => tl (q + al))) : Int)),
 PV.unk]) ([[(0, false, Blk.cols ml [Col.int IntKind.u32 tl]),
 (4, true,
 Blk.cells
 [PV.own (3) (4) (List.length (S.mdL nl fun (q : Nat) => tl (q + al)))]),
 (3, true,
 Blk.cols (List.length (S.mdL nl fun (q : Nat) => tl (q + al)))
 [Col.int IntKind.i64 fun (j : Nat) =>
 (S.at' (S.mdL nl fun (q : Nat) => tl (q + al)) j).1,
 Col.int IntKind.i64 fun (j : Nat) =>
 (S.at' (S.mdL nl fun (q : Nat) => tl (q + al)) j).2.1,
 Col.int IntKind.i64 fun (j : Nat) =>
 (S.at' (S.mdL nl fun (q : Nat) => tl (q + al)) j).2.2.1,
 Col.int IntKind.i64 fun (j : Nat) =>
 (S.at' (S.mdL nl fun (q : Nat) => tl (q + al)) j).2.2.2])]]) (7)))))
 (False))
 (False)))
 (False)))
 (False))
 (False)))
 (test (true)
 (test (true)
 (Kret (PV.tf true) ([[(0, false, Blk.cols ml [Col.int IntKind.u32 tl])]]) (3))
 (Kret (PV.tf false) ([[(0, false, Blk.cols ml [Col.int IntKind.u32 tl])]]) (3)))
 (False)))
 (False)
set_option maxRecDepth 100000 in
theorem te10 (test : Bool → Prop → Prop → Prop) (Kst : KS) (Kret : KR) (al nl ml : Nat) (tl : Nat → Int) (u : Int) (v : Int) : run test Try.env true (xR test) true 400 ⟨10, [.cd (mkFn Try.f10).body], argT 0 [.loose ⟨0, 1, al, 0⟩ nl, .int .u8 u, .int .u8 v], [[], [(0, (false, .cols ml [.int .u32 tl]))]], 1⟩ (proj 1 [7, 8, 9, 10, 14, 15, 16] Kst Kret) =
  Te10 test Kst Kret al nl ml tl u v := by kernel_rfl
noncomputable def T10_0 (test : Bool → Prop → Prop → Prop) (Kst : KS) (Kret : KR) (al nl ml : Nat) (tl : Nat → Int) (u : Int) (v : Int) (x0 : Int) (x1 : Int) (x2 : List (Int × Int × Int × Int)) : Prop :=
  test (decide (x1 ≥ (0 : Int)))
 (Kst (hd Try.f10 1) ([PV.ptr (PA.mk (1) (0) (0) (0)),
 PV.int IntKind.i64 (Int.tmod u (↑(List.length (S.mdL nl fun (q : Nat) => tl (q + al))) : Int)),
 PV.int IntKind.i64 (Int.tmod v (↑(List.length (S.mdL nl fun (q : Nat) => tl (q + al))) : Int)),
 PV.int IntKind.i64
 (Prod.fst
 (S.comS (List.length (S.mdL nl fun (q : Nat) => tl (q + al)))
 (fun (q : Nat) => (S.at' (S.mdL nl fun (q : Nat) => tl (q + al)) q).1)
 (fun (q : Nat) => (S.at' (S.mdL nl fun (q : Nat) => tl (q + al)) q).2.1)
 (fun (q : Nat) => (S.at' (S.mdL nl fun (q : Nat) => tl (q + al)) q).2.2.1)
 (fun (q : Nat) => (S.at' (S.mdL nl fun (q : Nat) => tl (q + al)) q).2.2.2)
 (Int.tmod u (↑(List.length (S.mdL nl fun (q : Nat) => tl (q + al))) : Int))
 (Int.tmod v (↑(List.length (S.mdL nl fun (q : Nat) => tl (q + al))) : Int)))),
 PV.int IntKind.i64 x0, PV.int IntKind.i64 x1,
 PV.int IntKind.i64 (Int.tmod v (↑(List.length (S.mdL nl fun (q : Nat) => tl (q + al))) : Int))]) ([[(0, false, Blk.cols ml [Col.int IntKind.u32 tl]),
 (1, true, Blk.cells [PV.own (2) (4) (List.length x2)]),
 (2, true,
 Blk.cols (List.length x2)
 [Col.int IntKind.i64 fun (j : Nat) => (S.at' x2 j).1,
 Col.int IntKind.i64 fun (j : Nat) => (S.at' x2 j).2.1,
 Col.int IntKind.i64 fun (j : Nat) => (S.at' x2 j).2.2.1,
 Col.int IntKind.i64 fun (j : Nat) => (S.at' x2 j).2.2.2])]]) (3))
 (test (Prod.fst
 (S.comS (List.length (S.mdL nl fun (q : Nat) => tl (q + al)))
 (fun (q : Nat) => (S.at' (S.mdL nl fun (q : Nat) => tl (q + al)) q).1)
 (fun (q : Nat) => (S.at' (S.mdL nl fun (q : Nat) => tl (q + al)) q).2.1)
 (fun (q : Nat) => (S.at' (S.mdL nl fun (q : Nat) => tl (q + al)) q).2.2.1)
 (fun (q : Nat) => (S.at' (S.mdL nl fun (q : Nat) => tl (q + al)) q).2.2.2)
 (Int.tmod u (↑(List.length (S.mdL nl fun (q : Nat) => tl (q + al))) : Int))
 (Int.tmod v (↑(List.length (S.mdL nl fun (q : Nat) => tl (q + al))) : Int))) !=
 x0)
 (Kret (PV.tf false) ([[(0, false, Blk.cols ml [Col.int IntKind.u32 tl])]]) (3))
 (test (Int.tmod u (↑(List.length (S.mdL nl fun (q : Nat) => tl (q + al))) : Int) == (0 : Int))
 (Kret (PV.tf true) ([[(0, false, Blk.cols ml [Col.int IntKind.u32 tl])]]) (3))
 (test (decide (0 + List.length x2 ≤ List.length x2 ∧ List.length x2 ≤ 1000000))
 (test (Prod.fst
 (S.cutS (List.length x2) (fun (q : Nat) => (S.at' x2 q).1)
 (fun (q : Nat) => (S.at' x2 q).2.1)
 (fun (q : Nat) => (S.at' x2 q).2.2.1)
 (fun (q : Nat) => (S.at' x2 q).2.2.2)
 (Int.tmod u (↑(List.length (S.mdL nl fun (q : Nat) => tl (q + al))) : Int))) ==
 (0 : Int))
 (test (decide
 (0 +
 List.length
 (Prod.snd
 (S.cutS (List.length x2) (fun (q : Nat) => (S.at' x2 q).1)
 (fun (q : Nat) => (S.at' x2 q).2.1)
 (fun (q : Nat) => (S.at' x2 q).2.2.1)
 (fun (q : Nat) => (S.at' x2 q).2.2.2)
 (Int.tmod u (↑(List.length (S.mdL nl fun (q : Nat) => tl (q + al))) : Int)))) ≤
 List.length
 (Prod.snd
 (S.cutS (List.length x2) (fun (q : Nat) => (S.at' x2 q).1)
 (fun (q : Nat) => (S.at' x2 q).2.1)
 (fun (q : Nat) => (S.at' x2 q).2.2.1)
 (fun (q : Nat) => (S.at' x2 q).2.2.2)
 (Int.tmod u (↑(List.length (S.mdL nl fun (q : Nat) => tl (q + al))) : Int)))) ∧
 List.length
 (Prod.snd
 (S.cutS (List.length x2) (fun (q : Nat) => (S.at' x2 q).1)
 (fun (q : Nat) => (S.at' x2 q).2.1)
 (fun (q : Nat) => (S.at' x2 q).2.2.1)
 (fun (q : Nat) => (S.at' x2 q).2.2.2)
 (Int.tmod u (↑(List.length (S.mdL nl fun (q : Nat) => tl (q + al))) : Int)))) ≤
 1000000))
 (test (S.any
 (fun (j : Nat) =>
 decide
 (S.at'
 (Prod.snd
 (S.cutS (List.length x2) (fun (q : Nat) => (S.at' x2 q).1)
 (fun (q : Nat) => (S.at' x2 q).2.1)
 (fun (q : Nat) => (S.at' x2 q).2.2.1)
 (fun (q : Nat) => (S.at' x2 q).2.2.2)
 (Int.tmod u (↑(List.length (S.mdL nl fun (q : Nat) => tl (q + al))) : Int))))
 j =
 Int.tmod v (↑(List.length (S.mdL nl fun (q : Nat) => tl (q + al))) : Int)))
 (List.length
 (Prod.snd
 (S.cutS (List.length x2) (fun (q : Nat) => (S.at' x2 q).1)
 (fun (q : Nat) => (S.at' x2 q).2.1)
 (fun (q : Nat) => (S.at' x2 q).2.2.1)
 (fun (q : Nat) => (S.at' x2 q).2.2.2)
 (Int.tmod u (↑(List.length (S.mdL nl fun (q : Nat) => tl (q + al))) : Int))))))
 (test (Prod.fst
 (S.comS (List.length (S.mdL nl fun (q : Nat) => tl (q + al)))
 (fun (q : Nat) => (S.at' (S.mdL nl fun (q : Nat) => tl (q + al)) q).1)
 (fun (q : Nat) => (S.at' (S.mdL nl fun (q : Nat) => tl (q + al)) q).2.1)
 (fun (q : Nat) => (S.at' (S.mdL nl fun (q : Nat) => tl (q + al)) q).2.2.1)
 (fun (q : Nat) => (S.at' (S.mdL nl fun (q : Nat) => tl (q + al)) q).2.2.2)
 (Int.tmod u (↑(List.length (S.mdL nl fun (q : Nat) => tl (q + al))) : Int))
 (Int.tmod v (↑(List.length (S.mdL nl fun (q : Nat) => tl (q + al))) : Int))) ==
 Int.tmod u (↑(List.length (S.mdL nl fun (q : Nat) => tl (q + al))) : Int))
 (Kret (PV.tf true) ([[(0, false, Blk.cols ml [Col.int IntKind.u32 tl])]]) (6))
 (Kret (PV.tf false) ([[(0, false, Blk.cols ml [Col.int IntKind.u32 tl])]]) (6)))
 (test (Prod.fst
 (S.comS (List.length (S.mdL nl fun (q : Nat) => tl (q + al)))
 (fun (q : Nat) => (S.at' (S.mdL nl fun (q : Nat) => tl (q + al)) q).1)
 (fun (q : Nat) => (S.at' (S.mdL nl fun (q : Nat) => tl (q + al)) q).2.1)
 (fun (q : Nat) => (S.at' (S.mdL nl fun (q : Nat) => tl (q + al)) q).2.2.1)
 (fun (q : Nat) => (S.at' (S.mdL nl fun (q : Nat) => tl (q + al)) q).2.2.2)
 (Int.tmod u (↑(List.length (S.mdL nl fun (q : Nat) => tl (q + al))) : Int))
 (Int.tmod v (↑(List.length (S.mdL nl fun (q : Nat) => tl (q + al))) : Int))) ==
 Int.tmod u (↑(List.length (S.mdL nl fun (q : Nat) => tl (q + al))) : Int))
 (Kret (PV.tf false) ([[(0, false, Blk.cols ml [Col.int IntKind.u32 tl])]]) (6))
 (Kret (PV.tf true) ([[(0, false, Blk.cols ml [Col.int IntKind.u32 tl])]]) (6))))
 (False))
 (Kret (PV.tf false) ([[(0, false, Blk.cols ml [Col.int IntKind.u32 tl])]]) (5)))
 (False))))
set_option maxRecDepth 100000 in
theorem t10_0 (test : Bool → Prop → Prop → Prop) (Kst : KS) (Kret : KR) (al nl ml : Nat) (tl : Nat → Int) (u : Int) (v : Int) (x0 : Int) (x1 : Int) (x2 : List (Int × Int × Int × Int)) : run test Try.env true (xR test) true 400 ⟨10, hd Try.f10 0, zipT [7, 8, 9, 10, 14, 15, 16] [PV.ptr (PA.mk (1) (0) (0) (0)),
 PV.int IntKind.i64 (Int.tmod u (↑(List.length (S.mdL nl fun (q : Nat) => tl (q + al))) : Int)),
 PV.int IntKind.i64 (Int.tmod v (↑(List.length (S.mdL nl fun (q : Nat) => tl (q + al))) : Int)),
 PV.int IntKind.i64
 (Prod.fst
 (S.comS (List.length (S.mdL nl fun (q : Nat) => tl (q + al)))
 (fun (q : Nat) => (S.at' (S.mdL nl fun (q : Nat) => tl (q + al)) q).1)
 (fun (q : Nat) => (S.at' (S.mdL nl fun (q : Nat) => tl (q + al)) q).2.1)
 (fun (q : Nat) => (S.at' (S.mdL nl fun (q : Nat) => tl (q + al)) q).2.2.1)
 (fun (q : Nat) => (S.at' (S.mdL nl fun (q : Nat) => tl (q + al)) q).2.2.2)
 (Int.tmod u (↑(List.length (S.mdL nl fun (q : Nat) => tl (q + al))) : Int))
 (Int.tmod v (↑(List.length (S.mdL nl fun (q : Nat) => tl (q + al))) : Int)))),
 PV.int IntKind.i64 x0, PV.int IntKind.i64 x1, PV.unk], [[(1, (true, Blk.cells [PV.own (2) (4) (List.length x2)])), (2, (true, Blk.cols (List.length x2)
 [Col.int IntKind.i64 fun (j : Nat) => (S.at' x2 j).1,
 Col.int IntKind.i64 fun (j : Nat) => (S.at' x2 j).2.1,
 Col.int IntKind.i64 fun (j : Nat) => (S.at' x2 j).2.2.1,
 Col.int IntKind.i64 fun (j : Nat) => (S.at' x2 j).2.2.2]))], [(0, (false, .cols ml [.int .u32 tl]))]], 3⟩ (proj 1 [7, 8, 9, 10, 14, 15, 16] Kst Kret) =
  T10_0 test Kst Kret al nl ml tl u v x0 x1 x2 := by kernel_rfl
noncomputable def T10_1 (test : Bool → Prop → Prop → Prop) (Kst : KS) (Kret : KR) (al nl ml : Nat) (tl : Nat → Int) (u : Int) (v : Int) (x0 : Int) (x1 : Int) (x2 : Int) (x3 : List (Int × Int × Int × Int)) : Prop :=
  test (decide (x2 ≥ (0 : Int)))
 (test (x1 == x2)
 (test (decide ((0 : Int) ≤ x2 ∧ x2 < (↑(List.length x3) : Int)))
 (test (decide (Int.toNat x2 < List.length x3))
 (Kst (hd Try.f10 1) ([PV.ptr (PA.mk (1) (0) (0) (0)),
 PV.int IntKind.i64 (Int.tmod u (↑(List.length (S.mdL nl fun (q : Nat) => tl (q + al))) : Int)),
 PV.int IntKind.i64 (Int.tmod v (↑(List.length (S.mdL nl fun (q : Nat) => tl (q + al))) : Int)),
 PV.int IntKind.i64
 (Prod.fst
 (S.comS (List.length (S.mdL nl fun (q : Nat) => tl (q + al)))
 (fun (q : Nat) => (S.at' (S.mdL nl fun (q : Nat) => tl (q + al)) q).1)
 (fun (q : Nat) => (S.at' (S.mdL nl fun (q : Nat) => tl (q + al)) q).2.1)
 (fun (q : Nat) => (S.at' (S.mdL nl fun (q : Nat) => tl (q + al)) q).2.2.1)
 (fun (q : Nat) => (S.at' (S.mdL nl fun (q : Nat) => tl (q + al)) q).2.2.2)
 (Int.tmod u (↑(List.length (S.mdL nl fun (q : Nat) => tl (q + al))) : Int))
 (Int.tmod v (↑(List.length (S.mdL nl fun (q : Nat) => tl (q + al))) : Int)))),
 PV.int IntKind.i64 (Max.max x0 x1), PV.int IntKind.i64 x1,
 PV.int IntKind.i64 ((S.at' x3 (Int.toNat x2)).1)]) ([[(0, false, Blk.cols ml [Col.int IntKind.u32 tl]),
 (1, true, Blk.cells [PV.own (2) (4) (List.length x3)]),
 (2, true,
 Blk.cols (List.length x3)
 [Col.int IntKind.i64 fun (j : Nat) => (S.at' x3 j).1,
 Col.int IntKind.i64 fun (j : Nat) => (S.at' x3 j).2.1,
 Col.int IntKind.i64 fun (j : Nat) => (S.at' x3 j).2.2.1,
 Col.int IntKind.i64 fun (j : Nat) => (S.at' x3 j).2.2.2])]]) (3))
 (False))
 (False))
 (test (decide ((0 : Int) ≤ x2 ∧ x2 < (↑(List.length x3) : Int)))
 (test (decide (Int.toNat x2 < List.length x3))
 (Kst (hd Try.f10 1) ([PV.ptr (PA.mk (1) (0) (0) (0)),
 PV.int IntKind.i64 (Int.tmod u (↑(List.length (S.mdL nl fun (q : Nat) => tl (q + al))) : Int)),
 PV.int IntKind.i64 (Int.tmod v (↑(List.length (S.mdL nl fun (q : Nat) => tl (q + al))) : Int)),
 PV.int IntKind.i64
 (Prod.fst
 (S.comS (List.length (S.mdL nl fun (q : Nat) => tl (q + al)))
 (fun (q : Nat) => (S.at' (S.mdL nl fun (q : Nat) => tl (q + al)) q).1)
 (fun (q : Nat) => (S.at' (S.mdL nl fun (q : Nat) => tl (q + al)) q).2.1)
 (fun (q : Nat) => (S.at' (S.mdL nl fun (q : Nat) => tl (q + al)) q).2.2.1)
 (fun (q : Nat) => (S.at' (S.mdL nl fun (q : Nat) => tl (q + al)) q).2.2.2)
 (Int.tmod u (↑(List.length (S.mdL nl fun (q : Nat) => tl (q + al))) : Int))
 (Int.tmod v (↑(List.length (S.mdL nl fun (q : Nat) => tl (q + al))) : Int)))),
 PV.int IntKind.i64 x0, PV.int IntKind.i64 x1,
 PV.int IntKind.i64 ((S.at' x3 (Int.toNat x2)).1)]) ([[(0, false, Blk.cols ml [Col.int IntKind.u32 tl]),
 (1, true, Blk.cells [PV.own (2) (4) (List.length x3)]),
 (2, true,
 Blk.cols (List.length x3)
 [Col.int IntKind.i64 fun (j : Nat) => (S.at' x3 j).1,
 Col.int IntKind.i64 fun (j : Nat) => (S.at' x3 j).2.1,
 Col.int IntKind.i64 fun (j : Nat) => (S.at' x3 j).2.2.1,
 Col.int IntKind.i64 fun (j : Nat) => (S.at' x3 j).2.2.2])]]) (3))
 (False))
 (False)))
 (test (decide ((0 : Int) ≤ x1 ∧ x1 < (↑(List.length x3) : Int)))
 (test (decide (Int.toNat x1 < List.length x3))
 (Kst (hd Try.f10 0) ([PV.ptr (PA.mk (1) (0) (0) (0)),
 PV.int IntKind.i64 (Int.tmod u (↑(List.length (S.mdL nl fun (q : Nat) => tl (q + al))) : Int)),
 PV.int IntKind.i64 (Int.tmod v (↑(List.length (S.mdL nl fun (q : Nat) => tl (q + al))) : Int)),
 PV.int IntKind.i64
 (Prod.fst
 (S.comS (List.length (S.mdL nl fun (q : Nat) => tl (q + al)))
 (fun (q : Nat) => (S.at' (S.mdL nl fun (q : Nat) => tl (q + al)) q).1)
 (fun (q : Nat) => (S.at' (S.mdL nl fun (q : Nat) => tl (q + al)) q).2.1)
 (fun (q : Nat) => (S.at' (S.mdL nl fun (q : Nat) => tl (q + al)) q).2.2.1)
 (fun (q : Nat) => (S.at' (S.mdL nl fun (q : Nat) => tl (q + al)) q).2.2.2)
 (Int.tmod u (↑(List.length (S.mdL nl fun (q : Nat) => tl (q + al))) : Int))
 (Int.tmod v (↑(List.length (S.mdL nl fun (q : Nat) => tl (q + al))) : Int)))),
 PV.int IntKind.i64 x0, PV.int IntKind.i64 ((S.at' x3 (Int.toNat x1)).1),
 PV.int IntKind.i64 x2]) ([[(0, false, Blk.cols ml [Col.int IntKind.u32 tl]),
 (1, true, Blk.cells [PV.own (2) (4) (List.length x3)]),
 (2, true,
 Blk.cols (List.length x3)
 [Col.int IntKind.i64 fun (j : Nat) => (S.at' x3 j).1,
 Col.int IntKind.i64 fun (j : Nat) => (S.at' x3 j).2.1,
 Col.int IntKind.i64 fun (j : Nat) => (S.at' x3 j).2.2.1,
 Col.int IntKind.i64 fun (j : Nat) => (S.at' x3 j).2.2.2])]]) (3))
 (False))
 (False))
set_option maxRecDepth 100000 in
theorem t10_1 (test : Bool → Prop → Prop → Prop) (Kst : KS) (Kret : KR) (al nl ml : Nat) (tl : Nat → Int) (u : Int) (v : Int) (x0 : Int) (x1 : Int) (x2 : Int) (x3 : List (Int × Int × Int × Int)) : run test Try.env true (xR test) true 400 ⟨10, hd Try.f10 1, zipT [7, 8, 9, 10, 14, 15, 16] [PV.ptr (PA.mk (1) (0) (0) (0)),
 PV.int IntKind.i64 (Int.tmod u (↑(List.length (S.mdL nl fun (q : Nat) => tl (q + al))) : Int)),
 PV.int IntKind.i64 (Int.tmod v (↑(List.length (S.mdL nl fun (q : Nat) => tl (q + al))) : Int)),
 PV.int IntKind.i64
 (Prod.fst
 (S.comS (List.length (S.mdL nl fun (q : Nat) => tl (q + al)))
 (fun (q : Nat) => (S.at' (S.mdL nl fun (q : Nat) => tl (q + al)) q).1)
 (fun (q : Nat) => (S.at' (S.mdL nl fun (q : Nat) => tl (q + al)) q).2.1)
 (fun (q : Nat) => (S.at' (S.mdL nl fun (q : Nat) => tl (q + al)) q).2.2.1)
 (fun (q : Nat) => (S.at' (S.mdL nl fun (q : Nat) => tl (q + al)) q).2.2.2)
 (Int.tmod u (↑(List.length (S.mdL nl fun (q : Nat) => tl (q + al))) : Int))
 (Int.tmod v (↑(List.length (S.mdL nl fun (q : Nat) => tl (q + al))) : Int)))),
 PV.int IntKind.i64 x0, PV.int IntKind.i64 x1, PV.int IntKind.i64 x2], [[(1, (true, Blk.cells [PV.own (2) (4) (List.length x3)])), (2, (true, Blk.cols (List.length x3)
 [Col.int IntKind.i64 fun (j : Nat) => (S.at' x3 j).1,
 Col.int IntKind.i64 fun (j : Nat) => (S.at' x3 j).2.1,
 Col.int IntKind.i64 fun (j : Nat) => (S.at' x3 j).2.2.1,
 Col.int IntKind.i64 fun (j : Nat) => (S.at' x3 j).2.2.2]))], [(0, (false, .cols ml [.int .u32 tl]))]], 3⟩ (proj 1 [7, 8, 9, 10, 14, 15, 16] Kst Kret) =
  T10_1 test Kst Kret al nl ml tl u v x0 x1 x2 x3 := by kernel_rfl
set_option maxRecDepth 100000 in
theorem be10 (al nl ml : Nat) (tl : Nat → Int) (u : Int) (v : Int) (Kst : KS) (Kret : KR) (x : St10 ⊕ Rt10) (hS : HS 1 400 ((I10 al nl ml tl u v)) Kst x) (hR : HR 1 400 ((V10 al nl ml tl u v)) (fun r => [newL (1 + 1) ((N10 al nl ml tl u v) r) ++ [(0, (false, .cols ml [.int .u32 tl]))]]) Kret x) (h : (bif (decide ((↑nl : Int) > (30 : Int)))
 then (some (.inr (true)))
 else (bif (decide (al + nl ≤ ml ∧ nl ≤ 1000000 ∧ (S.u32s nl fun (q : Nat) => tl (q + al)) = true))
 then (bif (lim IntKind.i64 u)
 then (bif (decide ((↑(List.length (S.mdL nl fun (q : Nat) => tl (q + al))) : Int) = (0 : Int)))
 then (none)
 else (bif (lim IntKind.i64 v)
 then (bif (decide
 (0 + List.length (S.mdL nl fun (q : Nat) => tl (q + al)) ≤
 List.length (S.mdL nl fun (q : Nat) => tl (q + al)) ∧
 List.length (S.mdL nl fun (q : Nat) => tl (q + al)) ≤ 1000000))
 then (bif (Prod.snd
 (S.comS (List.length (S.mdL nl fun (q : Nat) => tl (q + al)))
 (fun (q : Nat) => (S.at' (S.mdL nl fun (q : Nat) => tl (q + al)) q).1)
 (fun (q : Nat) => (S.at' (S.mdL nl fun (q : Nat) => tl (q + al)) q).2.1)
 (fun (q : Nat) => (S.at' (S.mdL nl fun (q : Nat) => tl (q + al)) q).2.2.1)
 (fun (q : Nat) => (S.at' (S.mdL nl fun (q : Nat) => tl (q + al)) q).2.2.2)
 (Int.tmod u (↑(List.length (S.mdL nl fun (q : Nat) => tl (q + al))) : Int))
 (Int.tmod v (↑(List.length (S.mdL nl fun (q : Nat) => tl (q + al))) : Int))) !=
 (0 : Int))
 then (some (.inr (false)))
 else (bif (Prod.snd
 (S.comS (List.length (S.mdL nl fun (q : Nat) => tl (q + al)))
 (fun (q : Nat) => (S.at' (S.mdL nl fun (q : Nat) => tl (q + al)) q).1)
 (fun (q : Nat) => (S.at' (S.mdL nl fun (q : Nat) => tl (q + al)) q).2.1)
 (fun (q : Nat) => (S.at' (S.mdL nl fun (q : Nat) => tl (q + al)) q).2.2.1)
 (fun (q : Nat) => (S.at' (S.mdL nl fun (q : Nat) => tl (q + al)) q).2.2.2)
 (Int.tmod v (↑(List.length (S.mdL nl fun (q : Nat) => tl (q + al))) : Int))
 (Int.tmod u (↑(List.length (S.mdL nl fun (q : Nat) => tl (q + al))) : Int))) !=
 (0 : Int))
 then (some (.inr (false)))
 else (bif (Prod.fst
 (S.comS (List.length (S.mdL nl fun (q : Nat) => tl (q + al)))
 (fun (q : Nat) => (S.at' (S.mdL nl fun (q : Nat) => tl (q + al)) q).1)
 (fun (q : Nat) => (S.at' (S.mdL nl fun (q : Nat) => tl (q + al)) q).2.1)
 (fun (q : Nat) => (S.at' (S.mdL nl fun (q : Nat) => tl (q + al)) q).2.2.1)
 (fun (q : Nat) => (S.at' (S.mdL nl fun (q : Nat) => tl (q + al)) q).2.2.2)
 (Int.tmod u (↑(List.length (S.mdL nl fun (q : Nat) => tl (q + al))) : Int))
 (Int.tmod v (↑(List.length (S.mdL nl fun (q : Nat) => tl (q + al))) : Int))) !=
 Prod.fst
 (S.comS (List.length (S.mdL nl fun (q : Nat) => tl (q + al)))
 (fun (q : Nat) => (S.at' (S.mdL nl fun (q : Nat) => tl (q + al)) q).1)
 (fun (q : Nat) => (S.at' (S.mdL nl fun (q : Nat) => tl (q + al)) q).2.1)
 (fun (q : Nat) => (S.at' (S.mdL nl fun (q : Nat) => tl (q + al)) q).2.2.1)
 (fun (q : Nat) => (S.at' (S.mdL nl fun (q : Nat) => tl (q + al)) q).2.2.2)
 (Int.tmod v (↑(List.length (S.mdL nl fun (q : Nat) => tl (q + al))) : Int))
 (Int.tmod u (↑(List.length (S.mdL nl fun (q : Nat) => tl (q + al))) : Int))))
 then (some (.inr (false)))
 else (some (.inl (.h0 ((0 : Int)) (Int.tmod u (↑(List.length (S.mdL nl fun (q : Nat) => tl (q + al))) : Int)) (S.mdL nl fun (q : Nat) => tl (q + al))))))))
 else (none))
 else (none)))
 else (none))
 else (none)) : Option (St10 ⊕ Rt10)) = some x) : Te10 cond Kst Kret al nl ml tl u v := by
  unfold Te10
  exact cond_yes rfl (cond_yes rfl (bif_split h
   (fun c0 h => cond_yes rfl (cond_yes rfl (ret_at hR _ h (fun n => n) rfl rfl rfl (rn_bool_tf rfl) rfl (entl_bor (use_lo rfl) rfl rfl entl_nil))))
   (fun c0 h => bif_split h
   (fun c1 h => bif_split h
   (fun c2 h => bif_split h
   (fun c3 h => no_some h)
   (fun c3 h => bif_split h
   (fun c4 h => cond_no c3 (bif_split h
   (fun c5 h => cond_yes c5 (bif_split h
   (fun c6 h => ret_at hR _ h (fun n => n) rfl rfl rfl (rn_bool_tf rfl) rfl (entl_bor (use_lo rfl) rfl rfl entl_nil))
   (fun c6 h => bif_split h
   (fun c7 h => ret_at hR _ h (fun n => n) rfl rfl rfl (rn_bool_tf rfl) rfl (entl_bor (use_lo rfl) rfl rfl entl_nil))
   (fun c7 h => bif_split h
   (fun c8 h => ret_at hR _ h (fun n => n) rfl rfl rfl (rn_bool_tf rfl) rfl (entl_bor (use_lo rfl) rfl rfl entl_nil))
   (fun c8 h => stop_at hS _ h (fun n => bif Nat.beq n 1 then 4 else bif Nat.beq n 2 then 3 else n) rfl rfl rfl ⟨(rn_ptr (use_own rfl) rfl rfl), ⟨(rn_int rfl), ⟨(rn_int rfl), ⟨(rn_int rfl), ⟨(rn_int rfl), ⟨(rn_int rfl), ⟨(rn_unk _), trivial⟩⟩⟩⟩⟩⟩⟩ rfl (entl_b (use_own rfl) rfl (by simp) (rb_cells ⟨(rn_own (use_own rfl) rfl rfl), trivial⟩) (entl_new (use_own rfl) rfl (Nat.le_of_eq rfl) (rcs_int (fun _ _ => rfl) (rcs_int (fun _ _ => rfl) (rcs_int (fun _ _ => rfl) (rcs_int (fun _ _ => rfl) rcs_nil)))) (entl_bor (use_lo rfl) rfl rfl entl_nil))))))))
   (fun c5 h => no_some h)))
   (fun c4 h => no_some h)))
   (fun c2 h => no_some h))
   (fun c1 h => no_some h))))
set_option maxRecDepth 100000 in
theorem b10_0 (al nl ml : Nat) (tl : Nat → Int) (u : Int) (v : Int) (Kst : KS) (Kret : KR) (x : St10 ⊕ Rt10) (hS : HS 1 400 ((I10 al nl ml tl u v)) Kst x) (hR : HR 1 400 ((V10 al nl ml tl u v)) (fun r => [newL (1 + 1) ((N10 al nl ml tl u v) r) ++ [(0, (false, .cols ml [.int .u32 tl]))]]) Kret x) (x0 : Int) (x1 : Int) (x2 : List (Int × Int × Int × Int)) (h : (bif (decide (x1 ≥ (0 : Int)))
 then (some (.inl (.h1 (x0) (x1) (Int.tmod v (↑(List.length (S.mdL nl fun (q : Nat) => tl (q + al))) : Int)) (x2))))
 else (bif (Prod.fst
 (S.comS (List.length (S.mdL nl fun (q : Nat) => tl (q + al)))
 (fun (q : Nat) => (S.at' (S.mdL nl fun (q : Nat) => tl (q + al)) q).1)
 (fun (q : Nat) => (S.at' (S.mdL nl fun (q : Nat) => tl (q + al)) q).2.1)
 (fun (q : Nat) => (S.at' (S.mdL nl fun (q : Nat) => tl (q + al)) q).2.2.1)
 (fun (q : Nat) => (S.at' (S.mdL nl fun (q : Nat) => tl (q + al)) q).2.2.2)
 (Int.tmod u (↑(List.length (S.mdL nl fun (q : Nat) => tl (q + al))) : Int))
 (Int.tmod v (↑(List.length (S.mdL nl fun (q : Nat) => tl (q + al))) : Int))) !=
 x0)
 then (some (.inr (false)))
 else (bif (Int.tmod u (↑(List.length (S.mdL nl fun (q : Nat) => tl (q + al))) : Int) == (0 : Int))
 then (some (.inr (true)))
 else (bif (decide (0 + List.length x2 ≤ List.length x2 ∧ List.length x2 ≤ 1000000))
 then (bif (Prod.fst
 (S.cutS (List.length x2) (fun (q : Nat) => (S.at' x2 q).1)
 (fun (q : Nat) => (S.at' x2 q).2.1)
 (fun (q : Nat) => (S.at' x2 q).2.2.1)
 (fun (q : Nat) => (S.at' x2 q).2.2.2)
 (Int.tmod u (↑(List.length (S.mdL nl fun (q : Nat) => tl (q + al))) : Int))) ==
 (0 : Int))
 then (bif (decide
 (0 +
 List.length
 (Prod.snd
 (S.cutS (List.length x2) (fun (q : Nat) => (S.at' x2 q).1)
 (fun (q : Nat) => (S.at' x2 q).2.1)
 (fun (q : Nat) => (S.at' x2 q).2.2.1)
 (fun (q : Nat) => (S.at' x2 q).2.2.2)
 (Int.tmod u (↑(List.length (S.mdL nl fun (q : Nat) => tl (q + al))) : Int)))) ≤
 List.length
 (Prod.snd
 (S.cutS (List.length x2) (fun (q : Nat) => (S.at' x2 q).1)
 (fun (q : Nat) => (S.at' x2 q).2.1)
 (fun (q : Nat) => (S.at' x2 q).2.2.1)
 (fun (q : Nat) => (S.at' x2 q).2.2.2)
 (Int.tmod u (↑(List.length (S.mdL nl fun (q : Nat) => tl (q + al))) : Int)))) ∧
 List.length
 (Prod.snd
 (S.cutS (List.length x2) (fun (q : Nat) => (S.at' x2 q).1)
 (fun (q : Nat) => (S.at' x2 q).2.1)
 (fun (q : Nat) => (S.at' x2 q).2.2.1)
 (fun (q : Nat) => (S.at' x2 q).2.2.2)
 (Int.tmod u (↑(List.length (S.mdL nl fun (q : Nat) => tl (q + al))) : Int)))) ≤
 1000000))
 then (bif (S.any
 (fun (j : Nat) =>
 decide
 (S.at'
 (Prod.snd
 (S.cutS (List.length x2) (fun (q : Nat) => (S.at' x2 q).1)
 (fun (q : Nat) => (S.at' x2 q).2.1)
 (fun (q : Nat) => (S.at' x2 q).2.2.1)
 (fun (q : Nat) => (S.at' x2 q).2.2.2)
 (Int.tmod u (↑(List.length (S.mdL nl fun (q : Nat) => tl (q + al))) : Int))))
 j =
 Int.tmod v (↑(List.length (S.mdL nl fun (q : Nat) => tl (q + al))) : Int)))
 (List.length
 (Prod.snd
 (S.cutS (List.length x2) (fun (q : Nat) => (S.at' x2 q).1)
 (fun (q : Nat) => (S.at' x2 q).2.1)
 (fun (q : Nat) => (S.at' x2 q).2.2.1)
 (fun (q : Nat) => (S.at' x2 q).2.2.2)
 (Int.tmod u (↑(List.length (S.mdL nl fun (q : Nat) => tl (q + al))) : Int))))))
 then (bif (Prod.fst
 (S.comS (List.length (S.mdL nl fun (q : Nat) => tl (q + al)))
 (fun (q : Nat) => (S.at' (S.mdL nl fun (q : Nat) => tl (q + al)) q).1)
 (fun (q : Nat) => (S.at' (S.mdL nl fun (q : Nat) => tl (q + al)) q).2.1)
 (fun (q : Nat) => (S.at' (S.mdL nl fun (q : Nat) => tl (q + al)) q).2.2.1)
 (fun (q : Nat) => (S.at' (S.mdL nl fun (q : Nat) => tl (q + al)) q).2.2.2)
 (Int.tmod u (↑(List.length (S.mdL nl fun (q : Nat) => tl (q + al))) : Int))
 (Int.tmod v (↑(List.length (S.mdL nl fun (q : Nat) => tl (q + al))) : Int))) ==
 Int.tmod u (↑(List.length (S.mdL nl fun (q : Nat) => tl (q + al))) : Int))
 then (some (.inr (true)))
 else (some (.inr (false))))
 else (bif (Prod.fst
 (S.comS (List.length (S.mdL nl fun (q : Nat) => tl (q + al)))
 (fun (q : Nat) => (S.at' (S.mdL nl fun (q : Nat) => tl (q + al)) q).1)
 (fun (q : Nat) => (S.at' (S.mdL nl fun (q : Nat) => tl (q + al)) q).2.1)
 (fun (q : Nat) => (S.at' (S.mdL nl fun (q : Nat) => tl (q + al)) q).2.2.1)
 (fun (q : Nat) => (S.at' (S.mdL nl fun (q : Nat) => tl (q + al)) q).2.2.2)
 (Int.tmod u (↑(List.length (S.mdL nl fun (q : Nat) => tl (q + al))) : Int))
 (Int.tmod v (↑(List.length (S.mdL nl fun (q : Nat) => tl (q + al))) : Int))) ==
 Int.tmod u (↑(List.length (S.mdL nl fun (q : Nat) => tl (q + al))) : Int))
 then (some (.inr (false)))
 else (some (.inr (true)))))
 else (none))
 else (some (.inr (false))))
 else (none)))) : Option (St10 ⊕ Rt10)) = some x) : T10_0 cond Kst Kret al nl ml tl u v x0 x1 x2 := by
  unfold T10_0
  exact bif_split h
   (fun c0 h => stop_at hS _ h (fun n => bif Nat.beq n 1 then 1 else bif Nat.beq n 2 then 2 else n) rfl rfl rfl ⟨(rn_ptr (use_own rfl) rfl rfl), ⟨(rn_int rfl), ⟨(rn_int rfl), ⟨(rn_int rfl), ⟨(rn_int rfl), ⟨(rn_int rfl), ⟨(rn_int rfl), trivial⟩⟩⟩⟩⟩⟩⟩ rfl (entl_b (use_own rfl) rfl (by simp) (rb_cells ⟨(rn_own (use_own rfl) rfl rfl), trivial⟩) (entl_new (use_own rfl) rfl (Nat.le_of_eq rfl) (rcs_int (fun _ _ => rfl) (rcs_int (fun _ _ => rfl) (rcs_int (fun _ _ => rfl) (rcs_int (fun _ _ => rfl) rcs_nil)))) (entl_bor (use_lo rfl) rfl rfl entl_nil))))
   (fun c0 h => bif_split h
   (fun c1 h => ret_at hR _ h (fun n => n) rfl rfl rfl (rn_bool_tf rfl) rfl (entl_bor (use_lo rfl) rfl rfl entl_nil))
   (fun c1 h => bif_split h
   (fun c2 h => ret_at hR _ h (fun n => n) rfl rfl rfl (rn_bool_tf rfl) rfl (entl_bor (use_lo rfl) rfl rfl entl_nil))
   (fun c2 h => bif_split h
   (fun c3 h => bif_split h
   (fun c4 h => bif_split h
   (fun c5 h => bif_split h
   (fun c6 h => bif_split h
   (fun c7 h => ret_at hR _ h (fun n => n) rfl rfl rfl (rn_bool_tf rfl) rfl (entl_bor (use_lo rfl) rfl rfl entl_nil))
   (fun c7 h => ret_at hR _ h (fun n => n) rfl rfl rfl (rn_bool_tf rfl) rfl (entl_bor (use_lo rfl) rfl rfl entl_nil)))
   (fun c6 h => bif_split h
   (fun c7 h => ret_at hR _ h (fun n => n) rfl rfl rfl (rn_bool_tf rfl) rfl (entl_bor (use_lo rfl) rfl rfl entl_nil))
   (fun c7 h => ret_at hR _ h (fun n => n) rfl rfl rfl (rn_bool_tf rfl) rfl (entl_bor (use_lo rfl) rfl rfl entl_nil))))
   (fun c5 h => no_some h))
   (fun c4 h => ret_at hR _ h (fun n => n) rfl rfl rfl (rn_bool_tf rfl) rfl (entl_bor (use_lo rfl) rfl rfl entl_nil)))
   (fun c3 h => no_some h))))
set_option maxRecDepth 100000 in
theorem b10_1 (al nl ml : Nat) (tl : Nat → Int) (u : Int) (v : Int) (Kst : KS) (Kret : KR) (x : St10 ⊕ Rt10) (hS : HS 1 400 ((I10 al nl ml tl u v)) Kst x) (hR : HR 1 400 ((V10 al nl ml tl u v)) (fun r => [newL (1 + 1) ((N10 al nl ml tl u v) r) ++ [(0, (false, .cols ml [.int .u32 tl]))]]) Kret x) (x0 : Int) (x1 : Int) (x2 : Int) (x3 : List (Int × Int × Int × Int)) (h : (bif (decide (x2 ≥ (0 : Int)))
 then (bif (x1 == x2)
 then (bif (decide ((0 : Int) ≤ x2 ∧ x2 < (↑(List.length x3) : Int)))
 then (bif (decide (Int.toNat x2 < List.length x3))
 then (some (.inl (.h1 (Max.max x0 x1) (x1) ((S.at' x3 (Int.toNat x2)).1) (x3))))
 else (none))
 else (none))
 else (bif (decide ((0 : Int) ≤ x2 ∧ x2 < (↑(List.length x3) : Int)))
 then (bif (decide (Int.toNat x2 < List.length x3))
 then (some (.inl (.h1 (x0) (x1) ((S.at' x3 (Int.toNat x2)).1) (x3))))
 else (none))
 else (none)))
 else (bif (decide ((0 : Int) ≤ x1 ∧ x1 < (↑(List.length x3) : Int)))
 then (bif (decide (Int.toNat x1 < List.length x3))
 then (some (.inl (.h0 (x0) ((S.at' x3 (Int.toNat x1)).1) (x3))))
 else (none))
 else (none)) : Option (St10 ⊕ Rt10)) = some x) : T10_1 cond Kst Kret al nl ml tl u v x0 x1 x2 x3 := by
  unfold T10_1
  exact bif_split h
   (fun c0 h => bif_split h
   (fun c1 h => bif_split h
   (fun c2 h => bif_split h
   (fun c3 h => stop_at hS _ h (fun n => bif Nat.beq n 1 then 1 else bif Nat.beq n 2 then 2 else n) rfl rfl rfl ⟨(rn_ptr (use_own rfl) rfl rfl), ⟨(rn_int rfl), ⟨(rn_int rfl), ⟨(rn_int rfl), ⟨(rn_int rfl), ⟨(rn_int rfl), ⟨(rn_int rfl), trivial⟩⟩⟩⟩⟩⟩⟩ rfl (entl_b (use_own rfl) rfl (by simp) (rb_cells ⟨(rn_own (use_own rfl) rfl rfl), trivial⟩) (entl_new (use_own rfl) rfl (Nat.le_of_eq rfl) (rcs_int (fun _ _ => rfl) (rcs_int (fun _ _ => rfl) (rcs_int (fun _ _ => rfl) (rcs_int (fun _ _ => rfl) rcs_nil)))) (entl_bor (use_lo rfl) rfl rfl entl_nil))))
   (fun c3 h => no_some h))
   (fun c2 h => no_some h))
   (fun c1 h => bif_split h
   (fun c2 h => bif_split h
   (fun c3 h => stop_at hS _ h (fun n => bif Nat.beq n 1 then 1 else bif Nat.beq n 2 then 2 else n) rfl rfl rfl ⟨(rn_ptr (use_own rfl) rfl rfl), ⟨(rn_int rfl), ⟨(rn_int rfl), ⟨(rn_int rfl), ⟨(rn_int rfl), ⟨(rn_int rfl), ⟨(rn_int rfl), trivial⟩⟩⟩⟩⟩⟩⟩ rfl (entl_b (use_own rfl) rfl (by simp) (rb_cells ⟨(rn_own (use_own rfl) rfl rfl), trivial⟩) (entl_new (use_own rfl) rfl (Nat.le_of_eq rfl) (rcs_int (fun _ _ => rfl) (rcs_int (fun _ _ => rfl) (rcs_int (fun _ _ => rfl) (rcs_int (fun _ _ => rfl) rcs_nil)))) (entl_bor (use_lo rfl) rfl rfl entl_nil))))
   (fun c3 h => no_some h))
   (fun c2 h => no_some h)))
   (fun c0 h => bif_split h
   (fun c1 h => bif_split h
   (fun c2 h => stop_at hS _ h (fun n => bif Nat.beq n 1 then 1 else bif Nat.beq n 2 then 2 else n) rfl rfl rfl ⟨(rn_ptr (use_own rfl) rfl rfl), ⟨(rn_int rfl), ⟨(rn_int rfl), ⟨(rn_int rfl), ⟨(rn_int rfl), ⟨(rn_int rfl), ⟨(rn_unk _), trivial⟩⟩⟩⟩⟩⟩⟩ rfl (entl_b (use_own rfl) rfl (by simp) (rb_cells ⟨(rn_own (use_own rfl) rfl rfl), trivial⟩) (entl_new (use_own rfl) rfl (Nat.le_of_eq rfl) (rcs_int (fun _ _ => rfl) (rcs_int (fun _ _ => rfl) (rcs_int (fun _ _ => rfl) (rcs_int (fun _ _ => rfl) rcs_nil)))) (entl_bor (use_lo rfl) rfl rfl entl_nil))))
   (fun c2 h => no_some h))
   (fun c1 h => no_some h))
theorem a10 (al nl ml : Nat) (tl : Nat → Int) (u : Int) (v : Int) {r : Rt10} (h : Goes ((q10 al nl ml tl u v)) ((p10 al nl ml tl u v)) r) : CallR Try.prog 10 [.loose ⟨0, 1, al, 0⟩ nl, .int .u8 u, .int .u8 v] [[(0, (false, .cols ml [.int .u32 tl]))]] 1 ((V10 al nl ml tl u v) r) ((fun r => [newL (1 + 1) ((N10 al nl ml tl u v) r) ++ [(0, (false, .cols ml [.int .u32 tl]))]]) r) 400 ∧ ∃ F, Try.prog.funcs[10]? = some F ∧ F.body.isSome = true ∧ (F.name == "runtime.NumGoroutine") = false := by
  refine dec_calls (f := 10) (lo := 1) (hi := 400) (H := [[(0, (false, .cols ml [.int .u32 tl]))]]) (args := [.loose ⟨0, 1, al, 0⟩ nl, .int .u8 u, .int .u8 v]) Try.envOk Try.mixed xR_ok ((I10 al nl ml tl u v)) ((V10 al nl ml tl u v)) (fun r => [newL (1 + 1) ((N10 al nl ml tl u v) r) ++ [(0, (false, .cols ml [.int .u32 tl]))]]) (fn := mkFn Try.f10) (ts := [7, 8, 9, 10, 14, 15, 16]) (n := 400) rfl (by decide) (by simp) (names_of rfl) ?_ ?_ ?_ h
  · intro s; cases s <;> exact ⟨hd_ok _ _, by simp [I10], names_of rfl, Nat.le_of_ble_eq_true rfl⟩
  · intro Kst Kret x hS hR h
    exact Holds.eq (te10 cond Kst Kret al nl ml tl u v) (be10 al nl ml tl u v Kst Kret x hS hR h)
  · intro Kst Kret x hS hR s h
    cases s with
    | h0 x0 x1 x2 => exact Holds.eq (t10_0 cond Kst Kret al nl ml tl u v x0 x1 x2) (b10_0 al nl ml tl u v Kst Kret x hS hR x0 x1 x2 h)
    | h1 x0 x1 x2 x3 => exact Holds.eq (t10_1 cond Kst Kret al nl ml tl u v x0 x1 x2 x3) (b10_1 al nl ml tl u v Kst Kret x hS hR x0 x1 x2 x3 h)
noncomputable def k10 : Con := ⟨10, [.one (.list [.int .u32]), .one (.plain (.int .u8)), .one (.plain (.int .u8))], fun (x : (Nat × Nat × Nat × (Nat → Int) × Unit) × Int × Int × Unit) => (fun (al nl ml : Nat) (tl : Nat → Int) (u : Int) (v : Int) => decide (al + nl ≤ ml ∧ S.u32s nl (fun q => tl (q + al)) = true ∧ S.byte u = true ∧ S.byte v = true)) x.1.1 x.1.2.1 x.1.2.2.1 x.1.2.2.2.1 x.2.1 x.2.2.1, fun (x : (Nat × Nat × Nat × (Nat → Int) × Unit) × Int × Int × Unit) => (fun (al nl ml : Nat) (tl : Nat → Int) (u : Int) (v : Int) => (V10 al nl ml tl u v) (true)) x.1.1 x.1.2.1 x.1.2.2.1 x.1.2.2.2.1 x.2.1 x.2.2.1, fun (x : (Nat × Nat × Nat × (Nat → Int) × Unit) × Int × Int × Unit) => (fun (al nl ml : Nat) (tl : Nat → Int) (u : Int) (v : Int) => (N10 al nl ml tl u v) (true)) x.1.1 x.1.2.1 x.1.2.2.1 x.1.2.2.2.1 x.2.1 x.2.2.1, fun _ _ => .dead⟩
theorem s10i (al nl ml : Nat) (tl : Nat → Int) (u : Int) (v : Int) (hn : nl ≤ 30) (ht : S.treE (S.mdL nl (fun q => tl (q + al))).length (fun q => (S.at' (S.mdL nl (fun q => tl (q + al))) q).1) (fun q => (S.at' (S.mdL nl (fun q => tl (q + al))) q).2.1) (fun q => (S.at' (S.mdL nl (fun q => tl (q + al))) q).2.2.1) (fun q => (S.at' (S.mdL nl (fun q => tl (q + al))) q).2.2.2) = 0) {A B : Nat} (hA : Int.tmod u ((S.mdL nl (fun q => tl (q + al))).length : Int) = (A : Int)) (hB : Int.tmod v ((S.mdL nl (fun q => tl (q + al))).length : Int) = (B : Int)) (hAn : A < (S.mdL nl (fun q => tl (q + al))).length) (hBn : B < (S.mdL nl (fun q => tl (q + al))).length) (n : Nat) (hnn : n < (S.mdL nl (fun q => tl (q + al))).length) (R0 : Rt10) : ∀ (m : Nat), m < (S.mdL nl (fun q => tl (q + al))).length → ∀ lo : Int, Comes (q10 al nl ml tl u v) (.h0 (if S.abv (fun q => (S.at' (S.mdL nl (fun q => tl (q + al))) q).1) n m = true then max lo (n : Int) else lo) ((fun q => (S.at' (S.mdL nl (fun q => tl (q + al))) q).1) n) (S.mdL nl (fun q => tl (q + al)))) R0 → Comes (q10 al nl ml tl u v) (.h1 lo (n : Int) (m : Int) (S.mdL nl (fun q => tl (q + al)))) R0 := by
  obtain ⟨v1, v2, v3, v4, v5, v6⟩ := tre_ok ht
  have last : ∀ lo : Int, Comes (q10 al nl ml tl u v) (.h0 lo ((fun q => (S.at' (S.mdL nl (fun q => tl (q + al))) q).1) n) (S.mdL nl (fun q => tl (q + al)))) R0 → Comes (q10 al nl ml tl u v) (.h1 lo (n : Int) (-1) (S.mdL nl (fun q => tl (q + al)))) R0 := by
    intro lo hR
    apply Comes.of
    show Goes _ _ _
    (first | rw [q10] | unfold q10)
    repeat' first
      | with_reducible refine goes_if (fun h => ?_) (fun h => ?_) <;> (try simp only [lim64, decide_eq_true_eq, decide_eq_false_iff_not, Int.toNat_natCast, toNat_pred, toNat_succ, Option.getD_some, Option.getD_none, Bool.not_eq_true', Bool.not_eq_false', Bool.and_eq_true, Bool.or_eq_true, Bool.and_eq_false_iff, Bool.or_eq_false_iff, bne_iff_ne, beq_iff_eq, bne_eq_false_iff_eq, beq_eq_false_iff_ne, ne_eq, not_and, Int.not_le, Int.not_lt, ge_iff_le, gt_iff_lt, Nat.not_lt, Nat.not_le, Bool.not_eq_true, Bool.not_eq_false, Bool.true_eq_false, Bool.false_eq_true, not_false_eq_true, not_true_eq_false] at h)
      | exact goes_none.mpr (by omega)
    all_goals first | (exfalso; omega) | exact hR
  refine nrec (fun q => (S.at' (S.mdL nl (fun q => tl (q + al))) q).1) (fun hm lo hR => ?_) (fun m h0 ih hm lo hR => ?_)
  · have e0 : (S.at' (S.mdL nl (fun q => tl (q + al))) 0).1 = -1 := v3
    by_cases hz : n = 0
    · subst hz
      rw [if_pos abv_eq] at hR
      have hl := last _ hR
      rw [← e0] at hl
      apply Comes.of
      show Goes _ _ _
      (first | rw [q10] | unfold q10)
      repeat' first
        | with_reducible refine goes_if (fun h => ?_) (fun h => ?_) <;> (try simp only [lim64, decide_eq_true_eq, decide_eq_false_iff_not, Int.toNat_natCast, toNat_pred, toNat_succ, Option.getD_some, Option.getD_none, Bool.not_eq_true', Bool.not_eq_false', Bool.and_eq_true, Bool.or_eq_true, Bool.and_eq_false_iff, Bool.or_eq_false_iff, bne_iff_ne, beq_iff_eq, bne_eq_false_iff_eq, beq_eq_false_iff_ne, ne_eq, not_and, Int.not_le, Int.not_lt, ge_iff_le, gt_iff_lt, Nat.not_lt, Nat.not_le, Bool.not_eq_true, Bool.not_eq_false, Bool.true_eq_false, Bool.false_eq_true, not_false_eq_true, not_true_eq_false] at h)
        | exact goes_none.mpr (by omega)
      all_goals first | (exfalso; omega) | exact hl
    · rw [if_neg (by rw [abv_no (by omega)]; exact Bool.false_ne_true)] at hR
      have hl := last _ hR
      rw [← e0] at hl
      apply Comes.of
      show Goes _ _ _
      (first | rw [q10] | unfold q10)
      repeat' first
        | with_reducible refine goes_if (fun h => ?_) (fun h => ?_) <;> (try simp only [lim64, decide_eq_true_eq, decide_eq_false_iff_not, Int.toNat_natCast, toNat_pred, toNat_succ, Option.getD_some, Option.getD_none, Bool.not_eq_true', Bool.not_eq_false', Bool.and_eq_true, Bool.or_eq_true, Bool.and_eq_false_iff, Bool.or_eq_false_iff, bne_iff_ne, beq_iff_eq, bne_eq_false_iff_eq, beq_eq_false_iff_ne, ne_eq, not_and, Int.not_le, Int.not_lt, ge_iff_le, gt_iff_lt, Nat.not_lt, Nat.not_le, Bool.not_eq_true, Bool.not_eq_false, Bool.true_eq_false, Bool.false_eq_true, not_false_eq_true, not_true_eq_false] at h)
        | exact goes_none.mpr (by omega)
      all_goals first | (exfalso; omega) | exact hl
  · have e : (S.at' (S.mdL nl (fun q => tl (q + al))) m).1 = (S.par (fun q => (S.at' (S.mdL nl (fun q => tl (q + al))) q).1) m : Int) := par_is v4 h0 hm
    have hl := par_lt (p := (fun q => (S.at' (S.mdL nl (fun q => tl (q + al))) q).1)) h0
    rcases Nat.lt_trichotomy n m with hc | hc | hc
    · rw [abv_up hc] at hR
      have ih := ih (by omega) lo hR
      rw [← e] at ih
      apply Comes.of
      show Goes _ _ _
      (first | rw [q10] | unfold q10)
      repeat' first
        | with_reducible refine goes_if (fun h => ?_) (fun h => ?_) <;> (try simp only [lim64, decide_eq_true_eq, decide_eq_false_iff_not, Int.toNat_natCast, toNat_pred, toNat_succ, Option.getD_some, Option.getD_none, Bool.not_eq_true', Bool.not_eq_false', Bool.and_eq_true, Bool.or_eq_true, Bool.and_eq_false_iff, Bool.or_eq_false_iff, bne_iff_ne, beq_iff_eq, bne_eq_false_iff_eq, beq_eq_false_iff_ne, ne_eq, not_and, Int.not_le, Int.not_lt, ge_iff_le, gt_iff_lt, Nat.not_lt, Nat.not_le, Bool.not_eq_true, Bool.not_eq_false, Bool.true_eq_false, Bool.false_eq_true, not_false_eq_true, not_true_eq_false] at h)
        | exact goes_none.mpr (by omega)
      all_goals first | (exfalso; omega) | exact ih
    · subst hc
      rw [if_pos abv_eq] at hR
      have ih := ih (by omega) (max lo (n : Int)) (by rw [if_neg (by rw [abv_no hl]; exact Bool.false_ne_true)]; exact hR)
      rw [← e] at ih
      apply Comes.of
      show Goes _ _ _
      (first | rw [q10] | unfold q10)
      repeat' first
        | with_reducible refine goes_if (fun h => ?_) (fun h => ?_) <;> (try simp only [lim64, decide_eq_true_eq, decide_eq_false_iff_not, Int.toNat_natCast, toNat_pred, toNat_succ, Option.getD_some, Option.getD_none, Bool.not_eq_true', Bool.not_eq_false', Bool.and_eq_true, Bool.or_eq_true, Bool.and_eq_false_iff, Bool.or_eq_false_iff, bne_iff_ne, beq_iff_eq, bne_eq_false_iff_eq, beq_eq_false_iff_ne, ne_eq, not_and, Int.not_le, Int.not_lt, ge_iff_le, gt_iff_lt, Nat.not_lt, Nat.not_le, Bool.not_eq_true, Bool.not_eq_false, Bool.true_eq_false, Bool.false_eq_true, not_false_eq_true, not_true_eq_false] at h)
        | exact goes_none.mpr (by omega)
      all_goals first | (exfalso; omega) | exact ih
    · rw [if_neg (by rw [abv_no hc]; exact Bool.false_ne_true)] at hR
      have ih := ih (by omega) lo (by rw [if_neg (by rw [abv_no (by omega)]; exact Bool.false_ne_true)]; exact hR)
      rw [← e] at ih
      apply Comes.of
      show Goes _ _ _
      (first | rw [q10] | unfold q10)
      repeat' first
        | with_reducible refine goes_if (fun h => ?_) (fun h => ?_) <;> (try simp only [lim64, decide_eq_true_eq, decide_eq_false_iff_not, Int.toNat_natCast, toNat_pred, toNat_succ, Option.getD_some, Option.getD_none, Bool.not_eq_true', Bool.not_eq_false', Bool.and_eq_true, Bool.or_eq_true, Bool.and_eq_false_iff, Bool.or_eq_false_iff, bne_iff_ne, beq_iff_eq, bne_eq_false_iff_eq, beq_eq_false_iff_ne, ne_eq, not_and, Int.not_le, Int.not_lt, ge_iff_le, gt_iff_lt, Nat.not_lt, Nat.not_le, Bool.not_eq_true, Bool.not_eq_false, Bool.true_eq_false, Bool.false_eq_true, not_false_eq_true, not_true_eq_false] at h)
        | exact goes_none.mpr (by omega)
      all_goals first | (exfalso; omega) | exact ih
theorem s10z (al nl ml : Nat) (tl : Nat → Int) (u : Int) (v : Int) (hn : nl ≤ 30) (ht : S.treE (S.mdL nl (fun q => tl (q + al))).length (fun q => (S.at' (S.mdL nl (fun q => tl (q + al))) q).1) (fun q => (S.at' (S.mdL nl (fun q => tl (q + al))) q).2.1) (fun q => (S.at' (S.mdL nl (fun q => tl (q + al))) q).2.2.1) (fun q => (S.at' (S.mdL nl (fun q => tl (q + al))) q).2.2.2) = 0) {A B : Nat} (hA : Int.tmod u ((S.mdL nl (fun q => tl (q + al))).length : Int) = (A : Int)) (hB : Int.tmod v ((S.mdL nl (fun q => tl (q + al))).length : Int) = (B : Int)) (hAn : A < (S.mdL nl (fun q => tl (q + al))).length) (hBn : B < (S.mdL nl (fun q => tl (q + al))).length) : Comes (q10 al nl ml tl u v) (.h0 (S.com (fun q => (S.at' (S.mdL nl (fun q => tl (q + al))) q).1) A B : Int) (-1) (S.mdL nl (fun q => tl (q + al)))) true := by
  obtain ⟨v1, v2, v3, v4, v5, v6⟩ := tre_ok ht
  have hcm : S.comS (S.mdL nl (fun q => tl (q + al))).length (fun q => (S.at' (S.mdL nl (fun q => tl (q + al))) q).1) (fun q => (S.at' (S.mdL nl (fun q => tl (q + al))) q).2.1) (fun q => (S.at' (S.mdL nl (fun q => tl (q + al))) q).2.2.1) (fun q => (S.at' (S.mdL nl (fun q => tl (q + al))) q).2.2.2) (A : Int) (B : Int) = ((S.com (fun q => (S.at' (S.mdL nl (fun q => tl (q + al))) q).1) A B : Int), 0) := by
    unfold S.comS; rw [if_pos ht, if_pos (by omega)]; rfl
  have hcut : 1 ≤ A → S.cutS (S.mdL nl (fun q => tl (q + al))).length (fun q => (S.at' (S.mdL nl (fun q => tl (q + al))) q).1) (fun q => (S.at' (S.mdL nl (fun q => tl (q + al))) q).2.1) (fun q => (S.at' (S.mdL nl (fun q => tl (q + al))) q).2.2.1) (fun q => (S.at' (S.mdL nl (fun q => tl (q + al))) q).2.2.2) (A : Int) = (0, S.cho (S.abv (fun q => (S.at' (S.mdL nl (fun q => tl (q + al))) q).1) A) (S.mdL nl (fun q => tl (q + al))).length) := by
    intro h; unfold S.cutS; rw [if_pos ht, if_pos (by omega)]; rfl
  have hany : S.any (fun j => decide (S.at' (S.cho (S.abv (fun q => (S.at' (S.mdL nl (fun q => tl (q + al))) q).1) A) (S.mdL nl (fun q => tl (q + al))).length) j = (B : Int))) (S.cho (S.abv (fun q => (S.at' (S.mdL nl (fun q => tl (q + al))) q).1) A) (S.mdL nl (fun q => tl (q + al))).length).length = S.abv (fun q => (S.at' (S.mdL nl (fun q => tl (q + al))) q).1) A B := cho_any hBn
  have hcl : (S.cho (S.abv (fun q => (S.at' (S.mdL nl (fun q => tl (q + al))) q).1) A) (S.mdL nl (fun q => tl (q + al))).length).length ≤ (S.mdL nl (fun q => tl (q + al))).length := cho_len
  have hml : (S.mdL nl (fun q => tl (q + al))).length ≤ 60 := v2
  have hci : ((S.com (fun q => (S.at' (S.mdL nl (fun q => tl (q + al))) q).1) A B : Nat) : Int) = (A : Int) ↔ S.abv (fun q => (S.at' (S.mdL nl (fun q => tl (q + al))) q).1) A B = true := by rw [← com_is]; omega
  by_cases hz : A = 0
  · subst hz
    apply Comes.of
    show Goes _ _ _
    rw [q10]
    simp only [hA, hB, hcm]
    repeat' first
      | with_reducible refine goes_if (fun h => ?_) (fun h => ?_) <;> (try simp only [lim64, decide_eq_true_eq, decide_eq_false_iff_not, Int.toNat_natCast, toNat_pred, toNat_succ, Option.getD_some, Option.getD_none, Bool.not_eq_true', Bool.not_eq_false', Bool.and_eq_true, Bool.or_eq_true, Bool.and_eq_false_iff, Bool.or_eq_false_iff, bne_iff_ne, beq_iff_eq, bne_eq_false_iff_eq, beq_eq_false_iff_ne, ne_eq, not_and, Int.not_le, Int.not_lt, ge_iff_le, gt_iff_lt, Nat.not_lt, Nat.not_le, Bool.not_eq_true, Bool.not_eq_false, Bool.true_eq_false, Bool.false_eq_true, not_false_eq_true, not_true_eq_false] at h)
      | exact goes_none.mpr (by omega)
    all_goals first | (exfalso; omega) | exact goes_inr.mpr rfl | (exfalso; simp_all; done)
  · have hcut := hcut (by omega)
    apply Comes.of
    show Goes _ _ _
    rw [q10]
    simp only [hA, hB, hcm, hcut, hany]
    generalize S.abv (fun q => (S.at' (S.mdL nl (fun q => tl (q + al))) q).1) A B = D at *
    generalize ((S.com (fun q => (S.at' (S.mdL nl (fun q => tl (q + al))) q).1) A B : Nat) : Int) = C at *
    repeat' first
      | with_reducible refine goes_if (fun h => ?_) (fun h => ?_) <;> (try simp only [lim64, decide_eq_true_eq, decide_eq_false_iff_not, Int.toNat_natCast, toNat_pred, toNat_succ, Option.getD_some, Option.getD_none, Bool.not_eq_true', Bool.not_eq_false', Bool.and_eq_true, Bool.or_eq_true, Bool.and_eq_false_iff, Bool.or_eq_false_iff, bne_iff_ne, beq_iff_eq, bne_eq_false_iff_eq, beq_eq_false_iff_ne, ne_eq, not_and, Int.not_le, Int.not_lt, ge_iff_le, gt_iff_lt, Nat.not_lt, Nat.not_le, Bool.not_eq_true, Bool.not_eq_false, Bool.true_eq_false, Bool.false_eq_true, not_false_eq_true, not_true_eq_false] at h)
      | exact goes_none.mpr (by omega)
    all_goals first | (exfalso; omega) | exact goes_inr.mpr rfl | (exfalso; simp_all; done)
theorem s10b (al nl ml : Nat) (tl : Nat → Int) (u : Int) (v : Int) (hn : nl ≤ 30) (ht : S.treE (S.mdL nl (fun q => tl (q + al))).length (fun q => (S.at' (S.mdL nl (fun q => tl (q + al))) q).1) (fun q => (S.at' (S.mdL nl (fun q => tl (q + al))) q).2.1) (fun q => (S.at' (S.mdL nl (fun q => tl (q + al))) q).2.2.1) (fun q => (S.at' (S.mdL nl (fun q => tl (q + al))) q).2.2.2) = 0) {A B : Nat} (hA : Int.tmod u ((S.mdL nl (fun q => tl (q + al))).length : Int) = (A : Int)) (hB : Int.tmod v ((S.mdL nl (fun q => tl (q + al))).length : Int) = (B : Int)) (hAn : A < (S.mdL nl (fun q => tl (q + al))).length) (hBn : B < (S.mdL nl (fun q => tl (q + al))).length) : ∀ n : Nat, n < S.com (fun q => (S.at' (S.mdL nl (fun q => tl (q + al))) q).1) A B → Comes (q10 al nl ml tl u v) (.h0 (S.com (fun q => (S.at' (S.mdL nl (fun q => tl (q + al))) q).1) A B : Int) (n : Int) (S.mdL nl (fun q => tl (q + al)))) true := by
  obtain ⟨v1, v2, v3, v4, v5, v6⟩ := tre_ok ht
  have hC := (com_le (p := (fun q => (S.at' (S.mdL nl (fun q => tl (q + al))) q).1)) (x := B) A).1
  have hz := s10z al nl ml tl u v hn ht hA hB hAn hBn
  have go : ∀ n : Nat, n < S.com (fun q => (S.at' (S.mdL nl (fun q => tl (q + al))) q).1) A B → Comes (q10 al nl ml tl u v) (.h0 (S.com (fun q => (S.at' (S.mdL nl (fun q => tl (q + al))) q).1) A B : Int) ((fun q => (S.at' (S.mdL nl (fun q => tl (q + al))) q).1) n) (S.mdL nl (fun q => tl (q + al)))) true → Comes (q10 al nl ml tl u v) (.h0 (S.com (fun q => (S.at' (S.mdL nl (fun q => tl (q + al))) q).1) A B : Int) (n : Int) (S.mdL nl (fun q => tl (q + al)))) true := by
    intro n hn2 hR
    have hi := s10i al nl ml tl u v hn ht hA hB hAn hBn n (by omega) true B hBn (S.com (fun q => (S.at' (S.mdL nl (fun q => tl (q + al))) q).1) A B : Int) (by
      have e : (if S.abv (fun q => (S.at' (S.mdL nl (fun q => tl (q + al))) q).1) n B = true then max (S.com (fun q => (S.at' (S.mdL nl (fun q => tl (q + al))) q).1) A B : Int) (n : Int) else (S.com (fun q => (S.at' (S.mdL nl (fun q => tl (q + al))) q).1) A B : Int)) = (S.com (fun q => (S.at' (S.mdL nl (fun q => tl (q + al))) q).1) A B : Int) := by split <;> omega
      rw [e]; exact hR)
    rw [← hB] at hi
    apply Comes.of
    show Goes _ _ _
    (first | rw [q10] | unfold q10)
    repeat' first
      | with_reducible refine goes_if (fun h => ?_) (fun h => ?_) <;> (try simp only [lim64, decide_eq_true_eq, decide_eq_false_iff_not, Int.toNat_natCast, toNat_pred, toNat_succ, Option.getD_some, Option.getD_none, Bool.not_eq_true', Bool.not_eq_false', Bool.and_eq_true, Bool.or_eq_true, Bool.and_eq_false_iff, Bool.or_eq_false_iff, bne_iff_ne, beq_iff_eq, bne_eq_false_iff_eq, beq_eq_false_iff_ne, ne_eq, not_and, Int.not_le, Int.not_lt, ge_iff_le, gt_iff_lt, Nat.not_lt, Nat.not_le, Bool.not_eq_true, Bool.not_eq_false, Bool.true_eq_false, Bool.false_eq_true, not_false_eq_true, not_true_eq_false] at h)
      | exact goes_none.mpr (by omega)
    all_goals first | (exfalso; omega) | exact hi
  refine nrec (fun q => (S.at' (S.mdL nl (fun q => tl (q + al))) q).1) (fun h => go 0 h (by rw [show (fun q => (S.at' (S.mdL nl (fun q => tl (q + al))) q).1) 0 = -1 from v3]; exact hz)) (fun n h0 ih h => ?_)
  have hl := par_lt (p := (fun q => (S.at' (S.mdL nl (fun q => tl (q + al))) q).1)) h0
  have e : (fun q => (S.at' (S.mdL nl (fun q => tl (q + al))) q).1) n = (S.par (fun q => (S.at' (S.mdL nl (fun q => tl (q + al))) q).1) n : Int) := par_is v4 h0 (by omega)
  exact go n h (by rw [e]; exact ih (by omega))
theorem s10a (al nl ml : Nat) (tl : Nat → Int) (u : Int) (v : Int) (hn : nl ≤ 30) (ht : S.treE (S.mdL nl (fun q => tl (q + al))).length (fun q => (S.at' (S.mdL nl (fun q => tl (q + al))) q).1) (fun q => (S.at' (S.mdL nl (fun q => tl (q + al))) q).2.1) (fun q => (S.at' (S.mdL nl (fun q => tl (q + al))) q).2.2.1) (fun q => (S.at' (S.mdL nl (fun q => tl (q + al))) q).2.2.2) = 0) {A B : Nat} (hA : Int.tmod u ((S.mdL nl (fun q => tl (q + al))).length : Int) = (A : Int)) (hB : Int.tmod v ((S.mdL nl (fun q => tl (q + al))).length : Int) = (B : Int)) (hAn : A < (S.mdL nl (fun q => tl (q + al))).length) (hBn : B < (S.mdL nl (fun q => tl (q + al))).length) : ∀ n : Nat, n < (S.mdL nl (fun q => tl (q + al))).length → S.com (fun q => (S.at' (S.mdL nl (fun q => tl (q + al))) q).1) n B = S.com (fun q => (S.at' (S.mdL nl (fun q => tl (q + al))) q).1) A B → Comes (q10 al nl ml tl u v) (.h0 0 (n : Int) (S.mdL nl (fun q => tl (q + al)))) true := by
  obtain ⟨v1, v2, v3, v4, v5, v6⟩ := tre_ok ht
  have hz := s10z al nl ml tl u v hn ht hA hB hAn hBn
  have go : ∀ n : Nat, n < (S.mdL nl (fun q => tl (q + al))).length → Comes (q10 al nl ml tl u v) (.h0 (if S.abv (fun q => (S.at' (S.mdL nl (fun q => tl (q + al))) q).1) n B = true then max 0 (n : Int) else 0) ((fun q => (S.at' (S.mdL nl (fun q => tl (q + al))) q).1) n) (S.mdL nl (fun q => tl (q + al)))) true → Comes (q10 al nl ml tl u v) (.h0 0 (n : Int) (S.mdL nl (fun q => tl (q + al)))) true := by
    intro n hn2 hR
    have hi := s10i al nl ml tl u v hn ht hA hB hAn hBn n (by omega) true B hBn 0 hR
    rw [← hB] at hi
    apply Comes.of
    show Goes _ _ _
    (first | rw [q10] | unfold q10)
    repeat' first
      | with_reducible refine goes_if (fun h => ?_) (fun h => ?_) <;> (try simp only [lim64, decide_eq_true_eq, decide_eq_false_iff_not, Int.toNat_natCast, toNat_pred, toNat_succ, Option.getD_some, Option.getD_none, Bool.not_eq_true', Bool.not_eq_false', Bool.and_eq_true, Bool.or_eq_true, Bool.and_eq_false_iff, Bool.or_eq_false_iff, bne_iff_ne, beq_iff_eq, bne_eq_false_iff_eq, beq_eq_false_iff_ne, ne_eq, not_and, Int.not_le, Int.not_lt, ge_iff_le, gt_iff_lt, Nat.not_lt, Nat.not_le, Bool.not_eq_true, Bool.not_eq_false, Bool.true_eq_false, Bool.false_eq_true, not_false_eq_true, not_true_eq_false] at h)
      | exact goes_none.mpr (by omega)
    all_goals first | (exfalso; omega) | exact hi
  refine nrec (fun q => (S.at' (S.mdL nl (fun q => tl (q + al))) q).1) (fun h hc => ?_) (fun n h0 ih h hc => ?_)
  · refine go 0 h ?_
    rw [if_pos (abv_root B), show (fun q => (S.at' (S.mdL nl (fun q => tl (q + al))) q).1) 0 = -1 from v3]
    rw [com_z] at hc
    rw [← hc] at hz
    exact hz
  · refine go n h ?_
    have hl := par_lt (p := (fun q => (S.at' (S.mdL nl (fun q => tl (q + al))) q).1)) h0
    have e : (fun q => (S.at' (S.mdL nl (fun q => tl (q + al))) q).1) n = (S.par (fun q => (S.at' (S.mdL nl (fun q => tl (q + al))) q).1) n : Int) := par_is v4 h0 h
    by_cases hb : S.abv (fun q => (S.at' (S.mdL nl (fun q => tl (q + al))) q).1) n B = true
    · rw [if_pos hb, e]
      rw [com_yes hb] at hc
      have hm : max 0 (n : Int) = (S.com (fun q => (S.at' (S.mdL nl (fun q => tl (q + al))) q).1) A B : Int) := by omega
      rw [hm]
      exact s10b al nl ml tl u v hn ht hA hB hAn hBn _ (by omega)
    · rw [if_neg hb, e]
      rw [Bool.not_eq_true] at hb
      rw [com_up hb] at hc
      exact ih (by omega) hc
theorem s10 (al nl ml : Nat) (tl : Nat → Int) (u : Int) (v : Int) (hp : al + nl ≤ ml ∧ S.u32s nl (fun q => tl (q + al)) = true ∧ S.byte u = true ∧ S.byte v = true) : Goes ((q10 al nl ml tl u v)) ((p10 al nl ml tl u v)) (true) := by
  obtain ⟨hp1, hp2, hu, hv⟩ := hp
  replace hu := of_decide_eq_true hu
  replace hv := of_decide_eq_true hv
  have ht : S.treE (S.mdL nl (fun q => tl (q + al))).length (fun q => (S.at' (S.mdL nl (fun q => tl (q + al))) q).1) (fun q => (S.at' (S.mdL nl (fun q => tl (q + al))) q).2.1) (fun q => (S.at' (S.mdL nl (fun q => tl (q + al))) q).2.2.1) (fun q => (S.at' (S.mdL nl (fun q => tl (q + al))) q).2.2.2) = 0 := mdL_ok hp2
  obtain ⟨v1, v2, v3, v4, v5, v6⟩ := tre_ok ht
  have ta := tmd hu.1 (show (0 : Int) < ((S.mdL nl (fun q => tl (q + al))).length : Int) by omega)
  have tb := tmd hv.1 (show (0 : Int) < ((S.mdL nl (fun q => tl (q + al))).length : Int) by omega)
  obtain ⟨A, hA⟩ := Int.eq_ofNat_of_zero_le ta.1
  obtain ⟨B, hB⟩ := Int.eq_ofNat_of_zero_le tb.1
  by_cases hn : nl ≤ 30
  · have hm := s10a al nl ml tl u v hn ht hA hB (by omega) (by omega) A (by omega) rfl
    have hcm : S.comS (S.mdL nl (fun q => tl (q + al))).length (fun q => (S.at' (S.mdL nl (fun q => tl (q + al))) q).1) (fun q => (S.at' (S.mdL nl (fun q => tl (q + al))) q).2.1) (fun q => (S.at' (S.mdL nl (fun q => tl (q + al))) q).2.2.1) (fun q => (S.at' (S.mdL nl (fun q => tl (q + al))) q).2.2.2) (A : Int) (B : Int) = ((S.com (fun q => (S.at' (S.mdL nl (fun q => tl (q + al))) q).1) A B : Int), 0) := by
      unfold S.comS; rw [if_pos ht, if_pos (by omega)]; rfl
    have hcm2 : S.comS (S.mdL nl (fun q => tl (q + al))).length (fun q => (S.at' (S.mdL nl (fun q => tl (q + al))) q).1) (fun q => (S.at' (S.mdL nl (fun q => tl (q + al))) q).2.1) (fun q => (S.at' (S.mdL nl (fun q => tl (q + al))) q).2.2.1) (fun q => (S.at' (S.mdL nl (fun q => tl (q + al))) q).2.2.2) (B : Int) (A : Int) = ((S.com (fun q => (S.at' (S.mdL nl (fun q => tl (q + al))) q).1) A B : Int), 0) := by
      unfold S.comS; rw [if_pos ht, if_pos (by omega)]; rw [com_sym _ A B (Nat.le_refl _)]; rfl
    unfold p10
    simp only [hA, hB, hcm, hcm2, hp2, and_true]
    repeat' first
      | with_reducible refine goes_if (fun h => ?_) (fun h => ?_) <;> (try simp only [lim64, decide_eq_true_eq, decide_eq_false_iff_not, Int.toNat_natCast, toNat_pred, toNat_succ, Option.getD_some, Option.getD_none, Bool.not_eq_true', Bool.not_eq_false', Bool.and_eq_true, Bool.or_eq_true, Bool.and_eq_false_iff, Bool.or_eq_false_iff, bne_iff_ne, beq_iff_eq, bne_eq_false_iff_eq, beq_eq_false_iff_ne, ne_eq, not_and, Int.not_le, Int.not_lt, ge_iff_le, gt_iff_lt, Nat.not_lt, Nat.not_le, Bool.not_eq_true, Bool.not_eq_false, Bool.true_eq_false, Bool.false_eq_true, not_false_eq_true, not_true_eq_false] at h)
      | exact goes_none.mpr (by omega)
    all_goals first | (exfalso; omega) | exact hm | (exfalso; simp_all; done)
  · unfold p10
    have hd : decide ((nl : Int) > 30) = true := decide_eq_true (by omega)
    rw [hd]
    exact goes_inr.mpr rfl

theorem k10_ok : k10.ok Try.prog := by
  intro x hx
  obtain ⟨⟨al, nl, ml, tl, _⟩, u, v, _⟩ := x
  obtain ⟨h1, h2⟩ := a10 al nl ml tl u v (s10 al nl ml tl u v (of_dec hx rfl))
  exact ⟨⟨400, (by decide : 1 + 1 + 0 ≤ 400), h1⟩, h2⟩

theorem pre10 {x : SsI k10.ss} (hx : ssFits k10.ss x) : (0 + x.1.1 ≤ x.1.1) ∧ (S.u32s x.1.1 fun j => x.1.2.1 (j + 0)) = true ∧ S.byte x.2.1 = true ∧ S.byte x.2.2.1 = true := by
  obtain ⟨⟨n, t, u'⟩, c0, c1, u''⟩ := x
  obtain ⟨⟨hn, ht, -⟩, h0, h1, -⟩ := hx
  exact ⟨Nat.le_of_eq (Nat.zero_add _), u32s_mk ht, byte_mk h0, byte_mk h1⟩

end Go.Ev
