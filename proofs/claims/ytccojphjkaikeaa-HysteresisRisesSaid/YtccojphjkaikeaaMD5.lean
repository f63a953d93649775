/-
  The magnet of a draft.
-/
import Derived.Test.YtccojphjkaikeaaMA4
namespace Go.Ev
open Go.Proofs
set_option linter.unusedVariables false
set_option linter.unusedSimpArgs false
set_option maxRecDepth 100000
noncomputable def yD5 (test : Bool → Prop → Prop → Prop) : Ext := consX test []
theorem yD5_ok : ExtOk Try.prog (yD5 cond) := consX_ok (l := []) trivial

namespace S
def byte (x : Int) : Bool := decide (0 ≤ x ∧ x ≤ 255)
def bytes (n : Nat) (t : Nat → Int) : Bool := decide (∀ j, j < n → 0 ≤ t j ∧ t j ≤ 255)
def word (x : Int) : Bool := decide (0 ≤ x ∧ x ≤ 4294967295)
def mdN (np : Nat) : Nat := if np = 0 then 1 else min np 12
/-- A relay of a draft. -/
def mdR (np : Nat) (t v : Nat → Int) (i : Nat) : Int × Int × Int :=
  if i < np then (Int.tmod (t i) 30 + 1 + Int.tmod (v i) 31, Int.tmod (t i) 30, 1 + Int.tdiv (t i) 30 + Int.tdiv (v i) 31) else (9, 3, 1)
def mdB (o : Int) (i : Nat) : Bool := andB .u32 (shrB .u32 o (i : Int)) 1 == 1
def inp (x : Int) : Int := Int.tmod x 64 - 4
end S
theorem bytes_mk {n : Nat} {t : Nat → Int} (h : ∀ j, j < n → 0 ≤ t j ∧ t j ≤ 255) : S.bytes n t = true := decide_eq_true h
theorem word_mk {x : Int} (h : 0 ≤ x ∧ x ≤ 4294967295) : S.word x = true := decide_eq_true h
theorem byte_div {x : Int} (h : 0 ≤ x ∧ x ≤ 255) : 0 ≤ Int.tmod x 30 ∧ Int.tmod x 30 ≤ 29 ∧ 0 ≤ Int.tdiv x 30 ∧ Int.tdiv x 30 ≤ 8 ∧ 0 ≤ Int.tmod x 31 ∧ Int.tmod x 31 ≤ 30 ∧ 0 ≤ Int.tdiv x 31 ∧ Int.tdiv x 31 ≤ 8 ∧ 0 ≤ Int.tmod x 64 ∧ Int.tmod x 64 ≤ 63 := by
  rw [Int.tmod_eq_emod_of_nonneg h.1, Int.tmod_eq_emod_of_nonneg h.1, Int.tmod_eq_emod_of_nonneg h.1, Int.tdiv_eq_ediv_of_nonneg h.1, Int.tdiv_eq_ediv_of_nonneg h.1]
  omega
theorem mdN_le {np : Nat} : 0 < S.mdN np ∧ S.mdN np ≤ 12 ∧ (np = 0 → S.mdN np = 1) ∧ (0 < np → S.mdN np ≤ np) ∧ ((S.mdN np : Int) < np → S.mdN np = 12) := by
  unfold S.mdN
  split <;> omega
theorem made_mag {np : Nat} {t v : Nat → Int} (h1 : S.bytes np t = true) (h2 : S.bytes np v = true) : S.magE (S.mdN np) (fun j => (S.mdR np t v j).1) (fun j => (S.mdR np t v j).2.1) (fun j => (S.mdR np t v j).2.2) (S.mdN np) = 0 := by
  obtain ⟨n1, n2, -⟩ := mdN_le (np := np)
  have key : ∀ k i, S.relE 0 (fun j => (S.mdR np t v j).1) (fun j => (S.mdR np t v j).2.1) (fun j => (S.mdR np t v j).2.2) i k = 0 := by
    intro k
    induction k with
    | zero => intro i; rfl
    | succ k ih =>
      intro i
      have hr : S.okR (S.mdR np t v i).1 (S.mdR np t v i).2.1 (S.mdR np t v i).2.2 = true ∧ (S.mdR np t v i).2.1 < (S.mdR np t v i).1 := by
        unfold S.mdR S.okR
        by_cases hi : i < np
        · rw [if_pos hi]
          have a := byte_div (of_decide_eq_true h1 i hi)
          have c := byte_div (of_decide_eq_true h2 i hi)
          simp only [decide_eq_true_eq]
          omega
        · rw [if_neg hi]; decide
      simp only [S.relE, hr.1, if_true]
      rw [if_neg (by omega)]
      exact ih (i + 1)
  unfold S.magE
  rw [if_neg (by omega), if_neg (by omega), if_pos rfl]
  exact key _ _
inductive St30 where
  | h0 (x0 : Int) (x1 : List (Int × Int × Int)) (x2 : List Bool)
abbrev Rt30 := List (Int × Int × Int) × List Bool
noncomputable def V30 (ap np mp : Nat) (tp : Nat → Int) (vp : Nat → Int) (o : Int) (r : Rt30) : PV := PV.agg
 [PV.own (2) (3) (List.length r.1), PV.own (3) (1) (List.length r.2)]
noncomputable def N30 (ap np mp : Nat) (tp : Nat → Int) (vp : Nat → Int) (o : Int) (r : Rt30) : List Blk := [Blk.cols (List.length r.1)
 [Col.int IntKind.i64 fun (j : Nat) => (S.at' r.1 j).1,
 Col.int IntKind.i64 fun (j : Nat) => (S.at' r.1 j).2.1,
 Col.int IntKind.i64 fun (j : Nat) => (S.at' r.1 j).2.2], Blk.cols (List.length r.2) [Col.bool fun (j : Nat) => S.at' r.2 j]]
noncomputable def I30 (ap np mp : Nat) (tp : Nat → Int) (vp : Nat → Int) (o : Int) : St30 → Hd
  | .h0 x0 x1 x2 => ⟨hd Try.f30 0, [PV.ptr (PA.mk (1) (0) (0) (0)),
 PV.ptr (PA.mk (2) (0) (0) (0)),
 PV.ptr (PA.mk (3) (0) (0) (0)), PV.int IntKind.i64 x0], [[(1, (true, Blk.cells [PV.loose (PA.mk (0) (2) ap (0)) np, PV.int IntKind.u32 o])), (2, (true, Blk.cells [PV.nils, PV.nils])), (3, (true, Blk.cells
 [PV.own (4) (3) (List.length x1), PV.own (5) (1) (List.length x2)])), (4, (true, Blk.cols (List.length x1)
 [Col.int IntKind.i64 fun (j : Nat) => (S.at' x1 j).1,
 Col.int IntKind.i64 fun (j : Nat) => (S.at' x1 j).2.1,
 Col.int IntKind.i64 fun (j : Nat) => (S.at' x1 j).2.2])), (5, (true, Blk.cols (List.length x2) [Col.bool fun (j : Nat) => S.at' x2 j]))], [(0, (false, .cols mp [.int .u8 tp, .int .u8 vp]))]], 6⟩
noncomputable def q30 (ap np mp : Nat) (tp : Nat → Int) (vp : Nat → Int) (o : Int) : St30 → Option (St30 ⊕ Rt30)
  | .h0 x0 x1 x2 => bif (x0 == (0 : Int))
 then (bif (decide (x0 < (↑np : Int)))
 then (bif (decide ((0 : Int) ≤ x0 ∧ x0 < (↑np : Int)))
 then (bif (decide (Int.toNat x0 + ap < mp))
 then (bif (lim IntKind.i64 (tp (Int.toNat x0 + ap)))
 then (bif (lim IntKind.i64 (Int.tmod (tp (Int.toNat x0 + ap)) (30 : Int) + (1 : Int)))
 then (bif (lim IntKind.i64 (vp (Int.toNat x0 + ap)))
 then (bif (lim IntKind.i64
 (Int.tmod (tp (Int.toNat x0 + ap)) (30 : Int) + (1 : Int) + Int.tmod (vp (Int.toNat x0 + ap)) (31 : Int)))
 then (bif (lim IntKind.i64 (Int.tdiv (tp (Int.toNat x0 + ap)) (30 : Int)))
 then (bif (lim IntKind.i64 ((1 : Int) + Int.tdiv (tp (Int.toNat x0 + ap)) (30 : Int)))
 then (bif (lim IntKind.i64 (Int.tdiv (vp (Int.toNat x0 + ap)) (31 : Int)))
 then (bif (lim IntKind.i64
 ((1 : Int) + Int.tdiv (tp (Int.toNat x0 + ap)) (30 : Int) + Int.tdiv (vp (Int.toNat x0 + ap)) (31 : Int)))
 then (bif (decide (List.length x1 + 1 ≤ 1000000))
 then (bif (decide (List.length x1 ≤ List.length x1))
 then (bif (decide (x0 < (0 : Int)))
 then (none)
 else (bif (S.andB IntKind.u32 (S.shrB IntKind.u32 o x0) (1 : Int) == (1 : Int))
 then (bif (decide (List.length x2 + 1 ≤ 1000000))
 then (bif (decide (List.length x2 ≤ List.length x2))
 then (bif (lim IntKind.i64 (x0 + (1 : Int)))
 then (some (.inl (.h0 (x0 + (1 : Int)) (S.snoc x1
 (Int.tmod (tp (Int.toNat x0 + ap)) (30 : Int) + (1 : Int) + Int.tmod (vp (Int.toNat x0 + ap)) (31 : Int),
 Int.tmod (tp (Int.toNat x0 + ap)) (30 : Int),
 (1 : Int) + Int.tdiv (tp (Int.toNat x0 + ap)) (30 : Int) + Int.tdiv (vp (Int.toNat x0 + ap)) (31 : Int))) (S.snoc x2 true))))
 else (none))
 else (none))
 else (none))
 else (bif (decide (List.length x2 + 1 ≤ 1000000))
 then (bif (decide (List.length x2 ≤ List.length x2))
 then (bif (lim IntKind.i64 (x0 + (1 : Int)))
 then (some (.inl (.h0 (x0 + (1 : Int)) (S.snoc x1
 (Int.tmod (tp (Int.toNat x0 + ap)) (30 : Int) + (1 : Int) + Int.tmod (vp (Int.toNat x0 + ap)) (31 : Int),
 Int.tmod (tp (Int.toNat x0 + ap)) (30 : Int),
 (1 : Int) + Int.tdiv (tp (Int.toNat x0 + ap)) (30 : Int) + Int.tdiv (vp (Int.toNat x0 + ap)) (31 : Int))) (S.snoc x2 false))))
 else (none))
 else (none))
 else (none))))
 else (none))
 else (none))
 else (none))
 else (none))
 else (none))
 else (none))
 else (none))
 else (none))
 else (none))
 else (none))
 else (none))
 else (none))
 else (bif (decide (List.length x1 + 1 ≤ 1000000))
 then (bif (decide (List.length x1 ≤ List.length x1))
 then (bif (decide (x0 < (0 : Int)))
 then (none)
 else (bif (S.andB IntKind.u32 (S.shrB IntKind.u32 o x0) (1 : Int) == (1 : Int))
 then (bif (decide (List.length x2 + 1 ≤ 1000000))
 then (bif (decide (List.length x2 ≤ List.length x2))
 then (bif (lim IntKind.i64 (x0 + (1 : Int)))
 then (some (.inl (.h0 (x0 + (1 : Int)) (S.snoc x1 ((9 : Int), (3 : Int), (1 : Int))) (S.snoc x2 true))))
 else (none))
 else (none))
 else (none))
 else (bif (decide (List.length x2 + 1 ≤ 1000000))
 then (bif (decide (List.length x2 ≤ List.length x2))
 then (bif (lim IntKind.i64 (x0 + (1 : Int)))
 then (some (.inl (.h0 (x0 + (1 : Int)) (S.snoc x1 ((9 : Int), (3 : Int), (1 : Int))) (S.snoc x2 false))))
 else (none))
 else (none))
 else (none))))
 else (none))
 else (none)))
 else (bif (decide (x0 < (↑np : Int)))
 then (bif (decide (x0 < (12 : Int)))
 then (bif (decide ((0 : Int) ≤ x0 ∧ x0 < (↑np : Int)))
 then (bif (decide (Int.toNat x0 + ap < mp))
 then (bif (lim IntKind.i64 (tp (Int.toNat x0 + ap)))
 then (bif (lim IntKind.i64 (Int.tmod (tp (Int.toNat x0 + ap)) (30 : Int) + (1 : Int)))
 then (bif (lim IntKind.i64 (vp (Int.toNat x0 + ap)))
 then (bif (lim IntKind.i64
 (Int.tmod (tp (Int.toNat x0 + ap)) (30 : Int) + (1 : Int) + Int.tmod (vp (Int.toNat x0 + ap)) (31 : Int)))
 then (bif (lim IntKind.i64 (Int.tdiv (tp (Int.toNat x0 + ap)) (30 : Int)))
 then (bif (lim IntKind.i64 ((1 : Int) + Int.tdiv (tp (Int.toNat x0 + ap)) (30 : Int)))
 then (bif (lim IntKind.i64 (Int.tdiv (vp (Int.toNat x0 + ap)) (31 : Int)))
 then (bif (lim IntKind.i64
 ((1 : Int) + Int.tdiv (tp (Int.toNat x0 + ap)) (30 : Int) + Int.tdiv (vp (Int.toNat x0 + ap)) (31 : Int)))
 then (bif (decide (List.length x1 + 1 ≤ 1000000))
 then (bif (decide (List.length x1 ≤ List.length x1))
 then (bif (decide (x0 < (0 : Int)))
 then (none)
 else (bif (S.andB IntKind.u32 (S.shrB IntKind.u32 o x0) (1 : Int) == (1 : Int))
 then (bif (decide (List.length x2 + 1 ≤ 1000000))
 then (bif (decide (List.length x2 ≤ List.length x2))
 then (bif (lim IntKind.i64 (x0 + (1 : Int)))
 then (some (.inl (.h0 (x0 + (1 : Int)) (S.snoc x1
 (Int.tmod (tp (Int.toNat x0 + ap)) (30 : Int) + (1 : Int) + Int.tmod (vp (Int.toNat x0 + ap)) (31 : Int),
 Int.tmod (tp (Int.toNat x0 + ap)) (30 : Int),
 (1 : Int) + Int.tdiv (tp (Int.toNat x0 + ap)) (30 : Int) + Int.tdiv (vp (Int.toNat x0 + ap)) (31 : Int))) (S.snoc x2 true))))
 else (none))
 else (none))
 else (none))
 else (bif (decide (List.length x2 + 1 ≤ 1000000))
 then (bif (decide (List.length x2 ≤ List.length x2))
 then (bif (lim IntKind.i64 (x0 + (1 : Int)))
 then (some (.inl (.h0 (x0 + (1 : Int)) (S.snoc x1
 (Int.tmod (tp (Int.toNat x0 + ap)) (30 : Int) + (1 : Int) + Int.tmod (vp (Int.toNat x0 + ap)) (31 : Int),
 Int.tmod (tp (Int.toNat x0 + ap)) (30 : Int),
 (1 : Int) + Int.tdiv (tp (Int.toNat x0 + ap)) (30 : Int) + Int.tdiv (vp (Int.toNat x0 + ap)) (31 : Int))) (S.snoc x2 false))))
 else (none))
 else (none))
 else (none))))
 else (none))
 else (none))
 else (none))
 else (none))
 else (none))
 else (none))
 else (none))
 else (none))
 else (none))
 else (none))
 else (none))
 else (none))
 else (some (.inr (x1, x2))))
 else (some (.inr (x1, x2))))
noncomputable def p30 (ap np mp : Nat) (tp : Nat → Int) (vp : Nat → Int) (o : Int) : Option (St30 ⊕ Rt30) := some (.inl (.h0 ((0 : Int)) ([]) ([])))
noncomputable def Te30 (test : Bool → Prop → Prop → Prop) (Kst : KS) (Kret : KR) (ap np mp : Nat) (tp : Nat → Int) (vp : Nat → Int) (o : Int) : Prop :=
  Kst (hd Try.f30 0) ([PV.ptr (PA.mk (1) (0) (0) (0)),
 PV.ptr (PA.mk (2) (0) (0) (0)),
 PV.ptr (PA.mk (3) (0) (0) (0)), PV.int IntKind.i64 (0 : Int)]) ([[(0, false, Blk.cols mp [Col.int IntKind.u8 tp, Col.int IntKind.u8 vp]),
 (3, true, Blk.cells [PV.nils, PV.nils]),
 (2, true, Blk.cells [PV.nils, PV.nils]),
 (1, true,
 Blk.cells
 [PV.loose (PA.mk (0) (2) ap (0)) np, PV.int IntKind.u32 o])]]) (4)
set_option maxRecDepth 100000 in
theorem te30 (test : Bool → Prop → Prop → Prop) (Kst : KS) (Kret : KR) (ap np mp : Nat) (tp : Nat → Int) (vp : Nat → Int) (o : Int) : run test Try.env true (yD5 test) true 400 ⟨30, [.cd (mkFn Try.f30).body], argT 0 [.agg [.loose ⟨0, 2, ap, 0⟩ np, .int .u32 o]], [[], [(0, (false, .cols mp [.int .u8 tp, .int .u8 vp]))]], 1⟩ (proj 1 [1, 2, 3, 4] Kst Kret) =
  Te30 test Kst Kret ap np mp tp vp o := by kernel_rfl
noncomputable def T30_0 (test : Bool → Prop → Prop → Prop) (Kst : KS) (Kret : KR) (ap np mp : Nat) (tp : Nat → Int) (vp : Nat → Int) (o : Int) (x0 : Int) (x1 : List (Int × Int × Int)) (x2 : List Bool) : Prop :=
  test (x0 == (0 : Int))
 (test (decide (x0 < (↑np : Int)))
 (test (decide ((0 : Int) ≤ x0 ∧ x0 < (↑np : Int)))
 (test (decide (Int.toNat x0 + ap < mp))
 (test (decide (Int.toNat x0 + ap < mp))
 (test (true)
 (test (lim IntKind.i64 (tp (Int.toNat x0 + ap)))
 (test (false)
 (False)
 (test (lim IntKind.i64 (Int.tmod (tp (Int.toNat x0 + ap)) (30 : Int) + (1 : Int)))
 (test (true)
 (test (lim IntKind.i64 (vp (Int.toNat x0 + ap)))
 (test (false)
 (False)
 (test (lim IntKind.i64
 (Int.tmod (tp (Int.toNat x0 + ap)) (30 : Int) + (1 : Int) + Int.tmod (vp (Int.toNat x0 + ap)) (31 : Int)))
 (test (true)
 (test (lim IntKind.i64 (tp (Int.toNat x0 + ap)))
 (test (false)
 (False)
 (test (lim IntKind.i64 (Int.tdiv (tp (Int.toNat x0 + ap)) (30 : Int)))
 (test (lim IntKind.i64 ((1 : Int) + Int.tdiv (tp (Int.toNat x0 + ap)) (30 : Int)))
 (test (true)
 (test (lim IntKind.i64 (vp (Int.toNat x0 + ap)))
 (test (false)
 (False)
 (test (lim IntKind.i64 (Int.tdiv (vp (Int.toNat x0 + ap)) (31 : Int)))
 (test (lim IntKind.i64
 ((1 : Int) + Int.tdiv (tp (Int.toNat x0 + ap)) (30 : Int) + Int.tdiv (vp (Int.toNat x0 + ap)) (31 : Int)))
 (test (decide (List.length x1 + 1 ≤ 1000000))
 (test (decide (List.length x1 ≤ List.length x1))
 (test (true)
 (test (decide (x0 < (0 : Int)))
 (False)
 (test (S.andB IntKind.u32 (S.shrB IntKind.u32 o x0) (1 : Int) == (1 : Int))
 (test (decide (List.length x2 + 1 ≤ 1000000))
 (test (decide (List.length x2 ≤ List.length x2))
 (test (true)
 (test (lim IntKind.i64 (x0 + (1 : Int)))
 (Kst (hd Try.f30 0) ([PV.ptr (PA.mk (1) (0) (0) (0)),
 PV.ptr (PA.mk (2) (0) (0) (0)),
 PV.ptr (PA.mk (3) (0) (0) (0)),
 PV.int IntKind.i64 (x0 + (1 : Int))]) ([[(0, false, Blk.cols mp [Col.int IntKind.u8 tp, Col.int IntKind.u8 vp]),
 (3, true,
 Blk.cells
 [PV.own (8) (3) (List.length x1 + 1),
 PV.own (10) (1) (List.length x2 + 1)]),
 (2, true, Blk.cells [PV.nils, PV.nils]),
 (1, true,
 Blk.cells
 [PV.loose (PA.mk (0) (2) ap (0)) np, PV.int IntKind.u32 o]),
 (10, true,
 Blk.cols (List.length x2 + 1)
 [Col.bool fun (j : Nat) => bif Nat.blt j (List.length x2) then S.at' x2 j else true]),
 (8, true,
 Blk.cols (List.length x1 + 1)
 [Col.int IntKind.i64 fun (j : Nat) =>
 bif Nat.blt j (List.length x1) then (S.at' x1 j).1
 else
 Int.tmod (tp (Int.toNat x0 + ap)) (30 : Int) + (1 : Int) + Int.tmod (vp (Int.toNat x0 + ap)) (31 : Int),
 Col.int IntKind.i64 fun (j : Nat) =>
 bif Nat.blt j (List.length x1) then (S.at' x1 j).2.1
 else Int.tmod (tp (Int.toNat x0 + ap)) (30 : Int),
 Col.int IntKind.i64 fun (j : Nat) =>
 bif Nat.blt j (List.length x1) then (S.at' x1 j).2.2
 else
 (1 : Int) + Int.tdiv (tp (Int.toNat x0 + ap)) (30 : Int) +
 Int.tdiv (vp (Int.toNat x0 + ap)) (31 : Int)])]]) (11))
 (False))
 (False))
 (False))
 (False))
 (test (decide (List.length x2 + 1 ≤ 1000000))
 (test (decide (List.length x2 ≤ List.length x2))
 (test (true)
 (test (lim IntKind.i64 (x0 + (1 : Int)))
 (Kst (hd Try.f30 0) ([PV.ptr (PA.mk (1) (0) (0) (0)),
 PV.ptr (PA.mk (2) (0) (0) (0)),
 PV.ptr (PA.mk (3) (0) (0) (0)),
 PV.int IntKind.i64 (x0 + (1 : Int))]) ([[(0, false, Blk.cols mp [Col.int IntKind.u8 tp, Col.int IntKind.u8 vp]),
 (3, true,
 Blk.cells
 [PV.own (8) (3) (List.length x1 + 1),
 PV.own (10) (1) (List.length x2 + 1)]),
 (2, true, Blk.cells [PV.nils, PV.nils]),
 (1, true,
 Blk.cells
 [PV.loose (PA.mk (0) (2) ap (0)) np, PV.int IntKind.u32 o]),
 (10, true,
 Blk.cols (List.length x2 + 1)
 [Col.bool fun (j : Nat) => bif Nat.blt j (List.length x2) then S.at' x2 j else false]),
 (8, true,
 Blk.cols (List.length x1 + 1)
 [Col.int IntKind.i64 fun (j : Nat) =>
 bif Nat.blt j (List.length x1) then (S.at' x1 j).1
 else
 Int.tmod (tp (Int.toNat x0 + ap)) (30 : Int) + (1 : Int) + Int.tmod (vp (Int.toNat x0 + ap)) (31 : Int),
 Col.int IntKind.i64 fun (j : Nat) =>
 bif Nat.blt j (List.length x1) then (S.at' x1 j).2.1
 else Int.tmod (tp (Int.toNat x0 + ap)) (30 : Int),
 Col.int IntKind.i64 fun (j : Nat) =>
 bif Nat.blt j (List.length x1) then (S.at' x1 j).2.2
 else
 (1 : Int) + Int.tdiv (tp (Int.toNat x0 + ap)) (30 : Int) +
 Int.tdiv (vp (Int.toNat x0 + ap)) (31 : Int)])]]) (11))
 (False))
 (False))
 (False))
 (False))))
 (False))
 (False))
 (False))
 (False))
 (False)))
 (False))
 (False))
 (False))
 (False)))
 (False))
 (False))
 (False)))
 (False))
 (False))
 (False)))
 (False))
 (False))
 (False))
 (False))
 (False))
 (test (true)
 (test (true)
 (test (false)
 (False)
 (test (true)
 (test (true)
 (test (true)
 (test (false)
 (False)
 (test (true)
 (test (true)
 (test (true)
 (test (false)
 (False)
 (test (true)
 (test (true)
 (test (true)
 (test (true)
 (test (false)
 (False)
 (test (true)
 (test (true)
 (test (decide (List.length x1 + 1 ≤ 1000000))
 (test (decide (List.length x1 ≤ List.length x1))
 (test (true)
 (test (decide (x0 < (0 : Int)))
 (False)
 (test (S.andB IntKind.u32 (S.shrB IntKind.u32 o x0) (1 : Int) == (1 : Int))
 (test (decide (List.length x2 + 1 ≤ 1000000))
 (test (decide (List.length x2 ≤ List.length x2))
 (test (true)
 (test (lim IntKind.i64 (x0 + (1 : Int)))
 (Kst (hd Try.f30 0) ([PV.ptr (PA.mk (1) (0) (0) (0)),
 PV.ptr (PA.mk (2) (0) (0) (0)),
 PV.ptr (PA.mk (3) (0) (0) (0)),
 PV.int IntKind.i64 (x0 + (1 : Int))]) ([[(0, false, Blk.cols mp [Col.int IntKind.u8 tp, Col.int IntKind.u8 vp]),
 (3, true,
 Blk.cells
 [PV.own (8) (3) (List.length x1 + 1),
 PV.own (10) (1) (List.length x2 + 1)]),
 (2, true, Blk.cells [PV.nils, PV.nils]),
 (1, true,
 Blk.cells
 [PV.loose (PA.mk (0) (2) ap (0)) np, PV.int IntKind.u32 o]),
 (10, true,
 Blk.cols (List.length x2 + 1)
 [Col.bool fun (j : Nat) => bif Nat.blt j (List.length x2) then S.at' x2 j else true]),
 (8, true,
 Blk.cols (List.length x1 + 1)
 [Col.int IntKind.i64 fun (j : Nat) =>
 bif Nat.blt j (List.length x1) then (S.at' x1 j).1 else (9 : Int),
 Col.int IntKind.i64 fun (j : Nat) =>
 bif Nat.blt j (List.length x1) then (S.at' x1 j).2.1 else (3 : Int),
 Col.int IntKind.i64 fun (j : Nat) =>
 bif Nat.blt j (List.length x1) then (S.at' x1 j).2.2 else (1 : Int)])]]) (11))
 (False))
 (False))
 (False))
 (False))
 (test (decide (List.length x2 + 1 ≤ 1000000))
 (test (decide (List.length x2 ≤ List.length x2))
 (test (true)
 (test (lim IntKind.i64 (x0 + (1 : Int)))
 (Kst (hd Try.f30 0) ([PV.ptr (PA.mk (1) (0) (0) (0)),
 PV.ptr (PA.mk (2) (0) (0) (0)),
 PV.ptr (PA.mk (3) (0) (0) (0)),
 PV.int IntKind.i64 (x0 + (1 : Int))]) ([[(0, false, Blk.cols mp [Col.int IntKind.u8 tp, Col.int IntKind.u8 vp]),
 (3, true,
 Blk.cells
 [PV.own (8) (3) (List.length x1 + 1),
 PV.own (10) (1) (List.length x2 + 1)]),
 (2, true, Blk.cells [PV.nils, PV.nils]),
 (1, true,
 Blk.cells
 [PV.loose (PA.mk (0) (2) ap (0)) np, PV.int IntKind.u32 o]),
 (10, true,
 Blk.cols (List.length x2 + 1)
 [Col.bool fun (j : Nat) => bif Nat.blt j (List.length x2) then S.at' x2 j else false]),
 (8, true,
 Blk.cols (List.length x1 + 1)
 [Col.int IntKind.i64 fun (j : Nat) =>
 bif Nat.blt j (List.length x1) then (S.at' x1 j).1 else (9 : Int),
 Col.int IntKind.i64 fun (j : Nat) =>
 bif Nat.blt j (List.length x1) then (S.at' x1 j).2.1 else (3 : Int),
 Col.int IntKind.i64 fun (j : Nat) =>
 bif Nat.blt j (List.length x1) then (S.at' x1 j).2.2 else (1 : Int)])]]) (11))
 (False))
 (False))
 (False))
 (False))))
 (False))
 (False))
 (False))
 (False))
 (False)))
 (False))
 (False))
 (False))
 (False)))
 (False))
 (False))
 (False)))
 (False))
 (False))
 (False)))
 (False))
 (False)))
 (test (decide (x0 < (↑np : Int)))
 (test (decide (x0 < (12 : Int)))
 (test (decide (x0 < (↑np : Int)))
 (test (decide ((0 : Int) ≤ x0 ∧ x0 < (↑np : Int)))
 (test (decide (Int.toNat x0 + ap < mp))
 (test (decide (Int.toNat x0 + ap < mp))
 (test (true)
 (test (lim IntKind.i64 (tp (Int.toNat x0 + ap)))
 (test (false)
 (False)
 (test (lim IntKind.i64 (Int.tmod (tp (Int.toNat x0 + ap)) (30 : Int) + (1 : Int)))
 (test (true)
 (test (lim IntKind.i64 (vp (Int.toNat x0 + ap)))
 (test (false)
 (False)
 (test (lim IntKind.i64
 (Int.tmod (tp (Int.toNat x0 + ap)) (30 : Int) + (1 : Int) + Int.tmod (vp (Int.toNat x0 + ap)) (31 : Int)))
 (test (true)
 (test (lim IntKind.i64 (tp (Int.toNat x0 + ap)))
 (test (false)
 (False)
 (test (lim IntKind.i64 (Int.tdiv (tp (Int.toNat x0 + ap)) (30 : Int)))
 (test (lim IntKind.i64 ((1 : Int) + Int.tdiv (tp (Int.toNat x0 + ap)) (30 : Int)))
 (test (true)
 (test (lim IntKind.i64 (vp (Int.toNat x0 + ap)))
 (test (false)
 (False)
 (test (lim IntKind.i64 (Int.tdiv (vp (Int.toNat x0 + ap)) (31 : Int)))
 (test (lim IntKind.i64
 ((1 : Int) + Int.tdiv (tp (Int.toNat x0 + ap)) (30 : Int) + Int.tdiv (vp (Int.toNat x0 + ap)) (31 : Int)))
 (test (decide (List.length x1 + 1 ≤ 1000000))
 (test (decide (List.length x1 ≤ List.length x1))
 (test (true)
 (test (decide (x0 < (0 : Int)))
 (False)
 (test (S.andB IntKind.u32 (S.shrB IntKind.u32 o x0) (1 : Int) == (1 : Int))
 (test (decide (List.length x2 + 1 ≤ 1000000))
 (test (decide (List.length x2 ≤ List.length x2))
 (test (true)
 (test (lim IntKind.i64 (x0 + (1 : Int)))
 (Kst (hd Try.f30 0) ([PV.ptr (PA.mk (1) (0) (0) (0)),
 PV.ptr (PA.mk (2) (0) (0) (0)),
 PV.ptr (PA.mk (3) (0) (0) (0)),
 PV.int IntKind.i64 (x0 + (1 : Int))]) ([[(0, false, Blk.cols mp [Col.int IntKind.u8 tp, Col.int IntKind.u8 vp]),
 (3, true,
 Blk.cells
 [PV.own (8) (3) (List.length x1 + 1),
 PV.own (10) (1) (List.length x2 + 1)]),
 (2, true, Blk.cells [PV.nils, PV.nils]),
 (1, true,
 Blk.cells
 [PV.loose (PA.mk (0) (2) ap (0)) np, PV.int IntKind.u32 o]),
 (10, true,
 Blk.cols (List.length x2 + 1)
 [Col.bool fun (j : Nat) => bif Nat.blt j (List.length x2) then S.at' x2 j else true]),
 (8, true,
 Blk.cols (List.length x1 + 1)
 [Col.int IntKind.i64 fun (j : Nat) =>
 bif Nat.blt j (List.length x1) then (S.at' x1 j).1
 else
 Int.tmod (tp (Int.toNat x0 + ap)) (30 : Int) + (1 : Int) + Int.tmod (vp (Int.toNat x0 + ap)) (31 : Int),
 Col.int IntKind.i64 fun (j : Nat) =>
 bif Nat.blt j (List.length x1) then (S.at' x1 j).2.1
 else Int.tmod (tp (Int.toNat x0 + ap)) (30 : Int),
 Col.int IntKind.i64 fun (j : Nat) =>
 bif Nat.blt j (List.length x1) then (S.at' x1 j).2.2
 else
 (1 : Int) + Int.tdiv (tp (Int.toNat x0 + ap)) (30 : Int) +
 Int.tdiv (vp (Int.toNat x0 + ap)) (31 : Int)])]]) (11))
 (False))
 (False))
 (False))
 (False))
 (test (decide (List.length x2 + 1 ≤ 1000000))
 (test (decide (List.length x2 ≤ List.length x2))
 (test (true)
 (test (lim IntKind.i64 (x0 + (1 : Int)))
 (Kst (hd Try.f30 0) ([PV.ptr (PA.mk (1) (0) (0) (0)),
 PV.ptr (PA.mk (2) (0) (0) (0)),
 PV.ptr (PA.mk (3) (0) (0) (0)),
 PV.int IntKind.i64 (x0 + (1 : Int))]) ([[(0, false, Blk.cols mp [Col.int IntKind.u8 tp, Col.int IntKind.u8 vp]),
 (3, true,
 Blk.cells
 [PV.own (8) (3) (List.length x1 + 1),
 PV.own (10) (1) (List.length x2 + 1)]),
 (2, true, Blk.cells [PV.nils, PV.nils]),
 (1, true,
 Blk.cells
 [PV.loose (PA.mk (0) (2) ap (0)) np, PV.int IntKind.u32 o]),
 (10, true,
 Blk.cols (List.length x2 + 1)
 [Col.bool fun (j : Nat) => bif Nat.blt j (List.length x2) then S.at' x2 j else false]),
 (8, true,
 Blk.cols (List.length x1 + 1)
 [Col.int IntKind.i64 fun (j : Nat) =>
 bif Nat.blt j (List.length x1) then (S.at' x1 j).1
 else
 Int.tmod (tp (Int.toNat x0 + ap)) (30 : Int) + (1 : Int) + Int.tmod (vp (Int.toNat x0 + ap)) (31 : Int),
 Col.int IntKind.i64 fun (j : Nat) =>
 bif Nat.blt j (List.length x1) then (S.at' x1 j).2.1
 else Int.tmod (tp (Int.toNat x0 + ap)) (30 : Int),
 Col.int IntKind.i64 fun (j : Nat) =>
 bif Nat.blt j (List.length x1) then (S.at' x1 j).2.2
 else
 (1 : Int) + Int.tdiv (tp (Int.toNat x0 + ap)) (30 : Int) +
 Int.tdiv (vp (Int.toNat x0 + ap)) (31 : Int)])]]) (11))
 (False))
 (False))
 (False))
 (False))))
 (False))
 (False))
 (False))
 (False))
 (False)))
 (False))
 (False))
 (False))
 (False)))
 (False))
 (False))
 (False)))
 (False))
 (False))
 (False)))
 (False))
 (False))
 (False))
 (False))
 (False))
 (test (true)
 (test (true)
 (test (false)
 (False)
 (test (true)
 (test (true)
 (test (true)
 (test (false)
 (False)
 (test (true)
 (test (true)
 (test (true)
 (test (false)
 (False)
 (test (true)
 (test (true)
 (test (true)
 (test (true)
 (test (false)
 (False)
 (test (true)
 (test (true)
 (test (decide (List.length x1 + 1 ≤ 1000000))
 (test (decide (List.length x1 ≤ List.length x1))
 (test (true)
 (test (decide (x0 < (0 : Int)))
 (False)
 (test (S.andB IntKind.u32 (S.shrB IntKind.u32 o x0) (1 : Int) == (1 : Int))
 (test (decide (List.length x2 + 1 ≤ 1000000))
 (test (decide (List.length x2 ≤ List.length x2))
 (test (true)
 (test (lim IntKind.i64 (x0 + (1 : Int)))
 (Kst (hd Try.f30 0) ([PV.ptr (PA.mk (1) (0) (0) (0)),
 PV.ptr (PA.mk (2) (0) (0) (0)),
 PV.ptr (PA.mk (3) (0) (0) (0)),
 PV.int IntKind.i64 (x0 + (1 : Int))]) ([[(0, false, Blk.cols mp [Col.int IntKind.u8 tp, Col.int IntKind.u8 vp]),
 (3, true,
 Blk.cells
 [PV.own (8) (3) (List.length x1 + 1),
 PV.own (10) (1) (List.length x2 + 1)]),
 (2, true, Blk.cells [PV.nils, PV.nils]),
 (1, true,
 Blk.cells
 [PV.loose (PA.mk (0) (2) ap (0)) np, PV.int IntKind.u32 o]),
 (10, true,
 Blk.cols (List.length x2 + 1)
 [Col.bool fun (j : Nat) => bif Nat.blt j (List.length x2) then S.at' x2 j else true]),
 (8, true,
 Blk.cols (List.length x1 + 1)
 [Col.int IntKind.i64 fun (j : Nat) =>
 bif Nat.blt j (List.length x1) then (S.at' x1 j).1 else (9 : Int),
 Col.int IntKind.i64 fun (j : Nat) =>
 bif Nat.blt j (List.length x1) then (S.at' x1 j).2.1 else (3 : Int),
 Col.int IntKind.i64 fun (j : Nat) =>
 bif Nat.blt j (List.length x1) then (S.at' x1 j).2.2 else (1 : Int)])]]) (11))
 (False))
 (False))
 (False))
 (False))
 (test (decide (List.length x2 + 1 ≤ 1000000))
 (test (decide (List.length x2 ≤ List.length x2))
 (test (true)
 (test (lim IntKind.i64 (x0 + (1 : Int)))
 (Kst (hd Try.f30 0) ([PV.ptr (PA.mk (1) (0) (0) (0)),
 PV.ptr (PA.mk (2) (0) (0) (0)),
 PV.ptr (PA.mk (3) (0) (0) (0)),
 PV.int IntKind.i64 (x0 + (1 : Int))]) ([[(0, false, Blk.cols mp [Col.int IntKind.u8 tp, Col.int IntKind.u8 vp]),
 (3, true,
 Blk.cells
 [PV.own (8) (3) (List.length x1 + 1),
 PV.own (10) (1) (List.length x2 + 1)]),
 (2, true, Blk.cells [PV.nils, PV.nils]),
 (1, true,
 Blk.cells
 [PV.loose (PA.mk (0) (2) ap (0)) np, PV.int IntKind.u32 o]),
 (10, true,
 Blk.cols (List.length x2 + 1)
 [Col.bool fun (j : Nat) => bif Nat.blt j (List.length x2) then S.at' x2 j else false]),
 (8, true,
 Blk.cols (List.length x1 + 1)
 [Col.int IntKind.i64 fun (j : Nat) =>
 bif Nat.blt j (List.length x1) then (S.at' x1 j).1 else (9 : Int),
 Col.int IntKind.i64 fun (j : Nat) =>
 bif Nat.blt j (List.length x1) then (S.at' x1 j).2.1 else (3 : Int),
 Col.int IntKind.i64 fun (j : Nat) =>
 bif Nat.blt j (List.length x1) then (S.at' x1 j).2.2 else (1 : Int)])]]) (11))
 (False))
 (False))
 (False))
 (False))))
 (False))
 (False))
 (False))
 (False))
 (False)))
 (False))
 (False))
 (False))
 (False)))
 (False))
 (False))
 (False)))
 (False))
 (False))
 (False)))
 (False))
 (False)))
 (Kret (PV.agg
 [PV.own (4) (3) (List.length x1), PV.own (5) (1) (List.length x2)]) ([[(0, false, Blk.cols mp [Col.int IntKind.u8 tp, Col.int IntKind.u8 vp]),
 (5, true, Blk.cols (List.length x2) [Col.bool fun (j : Nat) => S.at' x2 j]),
 (4, true,
 Blk.cols (List.length x1)
 [Col.int IntKind.i64 fun (j : Nat) => (S.at' x1 j).1,
 Col.int IntKind.i64 fun (j : Nat) => (S.at' x1 j).2.1,
 Col.int IntKind.i64 fun (j : Nat) => (S.at' x1 j).2.2])]]) (6)))
 (Kret (PV.agg
 [PV.own (4) (3) (List.length x1), PV.own (5) (1) (List.length x2)]) ([[(0, false, Blk.cols mp [Col.int IntKind.u8 tp, Col.int IntKind.u8 vp]),
 (5, true, Blk.cols (List.length x2) [Col.bool fun (j : Nat) => S.at' x2 j]),
 (4, true,
 Blk.cols (List.length x1)
 [Col.int IntKind.i64 fun (j : Nat) => (S.at' x1 j).1,
 Col.int IntKind.i64 fun (j : Nat) => (S.at' x1 j).2.1,
 Col.int IntKind.i64 fun (j : Nat) => (S.at' x1 j).2.2])]]) (6)))
set_option maxRecDepth 100000 in
theorem t30_0 (test : Bool → Prop → Prop → Prop) (Kst : KS) (Kret : KR) (ap np mp : Nat) (tp : Nat → Int) (vp : Nat → Int) (o : Int) (x0 : Int) (x1 : List (Int × Int × Int)) (x2 : List Bool) : run test Try.env true (yD5 test) true 400 ⟨30, hd Try.f30 0, zipT [1, 2, 3, 4] [PV.ptr (PA.mk (1) (0) (0) (0)),
 PV.ptr (PA.mk (2) (0) (0) (0)),
 PV.ptr (PA.mk (3) (0) (0) (0)), PV.int IntKind.i64 x0], [[(1, (true, Blk.cells [PV.loose (PA.mk (0) (2) ap (0)) np, PV.int IntKind.u32 o])), (2, (true, Blk.cells [PV.nils, PV.nils])), (3, (true, Blk.cells
 [PV.own (4) (3) (List.length x1), PV.own (5) (1) (List.length x2)])), (4, (true, Blk.cols (List.length x1)
 [Col.int IntKind.i64 fun (j : Nat) => (S.at' x1 j).1,
 Col.int IntKind.i64 fun (j : Nat) => (S.at' x1 j).2.1,
 Col.int IntKind.i64 fun (j : Nat) => (S.at' x1 j).2.2])), (5, (true, Blk.cols (List.length x2) [Col.bool fun (j : Nat) => S.at' x2 j]))], [(0, (false, .cols mp [.int .u8 tp, .int .u8 vp]))]], 6⟩ (proj 1 [1, 2, 3, 4] Kst Kret) =
  T30_0 test Kst Kret ap np mp tp vp o x0 x1 x2 := by kernel_rfl
set_option maxRecDepth 100000 in
theorem be30 (ap np mp : Nat) (tp : Nat → Int) (vp : Nat → Int) (o : Int) (Kst : KS) (Kret : KR) (x : St30 ⊕ Rt30) (hS : HS 1 400 ((I30 ap np mp tp vp o)) Kst x) (hR : HR 1 400 ((V30 ap np mp tp vp o)) (fun r => [newL (1 + 1) ((N30 ap np mp tp vp o) r) ++ [(0, (false, .cols mp [.int .u8 tp, .int .u8 vp]))]]) Kret x) (h : (some (.inl (.h0 ((0 : Int)) ([]) ([]))) : Option (St30 ⊕ Rt30)) = some x) : Te30 cond Kst Kret ap np mp tp vp o := by
  unfold Te30
  exact stop_at hS _ h (fun n => bif Nat.beq n 1 then 1 else bif Nat.beq n 2 then 2 else bif Nat.beq n 3 then 3 else bif Nat.beq n 4 then 399 else bif Nat.beq n 5 then 398 else n) rfl rfl rfl ⟨(rn_ptr (use_own rfl) rfl rfl), ⟨(rn_ptr (use_own rfl) rfl rfl), ⟨(rn_ptr (use_own rfl) rfl rfl), ⟨(rn_int rfl), trivial⟩⟩⟩⟩ rfl (entl_b (use_own rfl) rfl (by simp) (rb_cells ⟨(rn_loose (use_lo rfl) rfl rfl rfl), (rn_int rfl), trivial⟩) (entl_b (use_own rfl) rfl (by simp) (rb_cells ⟨rn_nils, rn_nils, trivial⟩) (entl_b (use_own rfl) rfl (by simp) (rb_cells ⟨(rn_own_nils rfl), (rn_own_nils rfl), trivial⟩) (entl_fresh (use_own rfl) (fresh_ok rfl) (entl_fresh (use_own rfl) (fresh_ok rfl) (entl_bor (use_lo rfl) rfl rfl entl_nil))))))
set_option maxRecDepth 100000 in
theorem b30_0 (ap np mp : Nat) (tp : Nat → Int) (vp : Nat → Int) (o : Int) (Kst : KS) (Kret : KR) (x : St30 ⊕ Rt30) (hS : HS 1 400 ((I30 ap np mp tp vp o)) Kst x) (hR : HR 1 400 ((V30 ap np mp tp vp o)) (fun r => [newL (1 + 1) ((N30 ap np mp tp vp o) r) ++ [(0, (false, .cols mp [.int .u8 tp, .int .u8 vp]))]]) Kret x) (x0 : Int) (x1 : List (Int × Int × Int)) (x2 : List Bool) (h : (bif (x0 == (0 : Int))
 then (bif (decide (x0 < (↑np : Int)))
 then (bif (decide ((0 : Int) ≤ x0 ∧ x0 < (↑np : Int)))
 then (bif (decide (Int.toNat x0 + ap < mp))
 then (bif (lim IntKind.i64 (tp (Int.toNat x0 + ap)))
 then (bif (lim IntKind.i64 (Int.tmod (tp (Int.toNat x0 + ap)) (30 : Int) + (1 : Int)))
 then (bif (lim IntKind.i64 (vp (Int.toNat x0 + ap)))
 then (bif (lim IntKind.i64
 (Int.tmod (tp (Int.toNat x0 + ap)) (30 : Int) + (1 : Int) + Int.tmod (vp (Int.toNat x0 + ap)) (31 : Int)))
 then (bif (lim IntKind.i64 (Int.tdiv (tp (Int.toNat x0 + ap)) (30 : Int)))
 then (bif (lim IntKind.i64 ((1 : Int) + Int.tdiv (tp (Int.toNat x0 + ap)) (30 : Int)))
 then (bif (lim IntKind.i64 (Int.tdiv (vp (Int.toNat x0 + ap)) (31 : Int)))
 then (bif (lim IntKind.i64
 ((1 : Int) + Int.tdiv (tp (Int.toNat x0 + ap)) (30 : Int) + Int.tdiv (vp (Int.toNat x0 + ap)) (31 : Int)))
 then (bif (decide (List.length x1 + 1 ≤ 1000000))
 then (bif (decide (List.length x1 ≤ List.length x1))
 then (bif (decide (x0 < (0 : Int)))
 then (none)
 else (bif (S.andB IntKind.u32 (S.shrB IntKind.u32 o x0) (1 : Int) == (1 : Int))
 then (bif (decide (List.length x2 + 1 ≤ 1000000))
 then (bif (decide (List.length x2 ≤ List.length x2))
 then (bif (lim IntKind.i64 (x0 + (1 : Int)))
 then (some (.inl (.h0 (x0 + (1 : Int)) (S.snoc x1
 (Int.tmod (tp (Int.toNat x0 + ap)) (30 : Int) + (1 : Int) + Int.tmod (vp (Int.toNat x0 + ap)) (31 : Int),
 Int.tmod (tp (Int.toNat x0 + ap)) (30 : Int),
 (1 : Int) + Int.tdiv (tp (Int.toNat x0 + ap)) (30 : Int) + Int.tdiv (vp (Int.toNat x0 + ap)) (31 : Int))) (S.snoc x2 true))))
 else (none))
 else (none))
 else (none))
 else (bif (decide (List.length x2 + 1 ≤ 1000000))
 then (bif (decide (List.length x2 ≤ List.length x2))
 then (bif (lim IntKind.i64 (x0 + (1 : Int)))
 then (some (.inl (.h0 (x0 + (1 : Int)) (S.snoc x1
 (Int.tmod (tp (Int.toNat x0 + ap)) (30 : Int) + (1 : Int) + Int.tmod (vp (Int.toNat x0 + ap)) (31 : Int),
 Int.tmod (tp (Int.toNat x0 + ap)) (30 : Int),
 (1 : Int) + Int.tdiv (tp (Int.toNat x0 + ap)) (30 : Int) + Int.tdiv (vp (Int.toNat x0 + ap)) (31 : Int))) (S.snoc x2 false))))
 else (none))
 else (none))
 else (none))))
 else (none))
 else (none))
 else (none))
 else (none))
 else (none))
 else (none))
 else (none))
 else (none))
 else (none))
 else (none))
 else (none))
 else (none))
 else (bif (decide (List.length x1 + 1 ≤ 1000000))
 then (bif (decide (List.length x1 ≤ List.length x1))
 then (bif (decide (x0 < (0 : Int)))
 then (none)
 else (bif (S.andB IntKind.u32 (S.shrB IntKind.u32 o x0) (1 : Int) == (1 : Int))
 then (bif (decide (List.length x2 + 1 ≤ 1000000))
 then (bif (decide (List.length x2 ≤ List.length x2))
 then (bif (lim IntKind.i64 (x0 + (1 : Int)))
 then (some (.inl (.h0 (x0 + (1 : Int)) (S.snoc x1 ((9 : Int), (3 : Int), (1 : Int))) (S.snoc x2 true))))
 else (none))
 else (none))
 else (none))
 else (bif (decide (List.length x2 + 1 ≤ 1000000))
 then (bif (decide (List.length x2 ≤ List.length x2))
 then (bif (lim IntKind.i64 (x0 + (1 : Int)))
 then (some (.inl (.h0 (x0 + (1 : Int)) (S.snoc x1 ((9 : Int), (3 : Int), (1 : Int))) (S.snoc x2 false))))
 else (none))
 else (none))
 else (none))))
 else (none))
 else (none)))
 else (bif (decide (x0 < (↑np : Int)))
 then (bif (decide (x0 < (12 : Int)))
 then (bif (decide ((0 : Int) ≤ x0 ∧ x0 < (↑np : Int)))
 then (bif (decide (Int.toNat x0 + ap < mp))
 then (bif (lim IntKind.i64 (tp (Int.toNat x0 + ap)))
 then (bif (lim IntKind.i64 (Int.tmod (tp (Int.toNat x0 + ap)) (30 : Int) + (1 : Int)))
 then (bif (lim IntKind.i64 (vp (Int.toNat x0 + ap)))
 then (bif (lim IntKind.i64
 (Int.tmod (tp (Int.toNat x0 + ap)) (30 : Int) + (1 : Int) + Int.tmod (vp (Int.toNat x0 + ap)) (31 : Int)))
 then (bif (lim IntKind.i64 (Int.tdiv (tp (Int.toNat x0 + ap)) (30 : Int)))
 then (bif (lim IntKind.i64 ((1 : Int) + Int.tdiv (tp (Int.toNat x0 + ap)) (30 : Int)))
 then (bif (lim IntKind.i64 (Int.tdiv (vp (Int.toNat x0 + ap)) (31 : Int)))
 then (bif (lim IntKind.i64
 ((1 : Int) + Int.tdiv (tp (Int.toNat x0 + ap)) (30 : Int) + Int.tdiv (vp (Int.toNat x0 + ap)) (31 : Int)))
 then (bif (decide (List.length x1 + 1 ≤ 1000000))
 then (bif (decide (List.length x1 ≤ List.length x1))
 then (bif (decide (x0 < (0 : Int)))
 then (none)
 else (bif (S.andB IntKind.u32 (S.shrB IntKind.u32 o x0) (1 : Int) == (1 : Int))
 then (bif (decide (List.length x2 + 1 ≤ 1000000))
 then (bif (decide (List.length x2 ≤ List.length x2))
 then (bif (lim IntKind.i64 (x0 + (1 : Int)))
 then (some (.inl (.h0 (x0 + (1 : Int)) (S.snoc x1
 (Int.tmod (tp (Int.toNat x0 + ap)) (30 : Int) + (1 : Int) + Int.tmod (vp (Int.toNat x0 + ap)) (31 : Int),
 Int.tmod (tp (Int.toNat x0 + ap)) (30 : Int),
 (1 : Int) + Int.tdiv (tp (Int.toNat x0 + ap)) (30 : Int) + Int.tdiv (vp (Int.toNat x0 + ap)) (31 : Int))) (S.snoc x2 true))))
 else (none))
 else (none))
 else (none))
 else (bif (decide (List.length x2 + 1 ≤ 1000000))
 then (bif (decide (List.length x2 ≤ List.length x2))
 then (bif (lim IntKind.i64 (x0 + (1 : Int)))
 then (some (.inl (.h0 (x0 + (1 : Int)) (S.snoc x1
 (Int.tmod (tp (Int.toNat x0 + ap)) (30 : Int) + (1 : Int) + Int.tmod (vp (Int.toNat x0 + ap)) (31 : Int),
 Int.tmod (tp (Int.toNat x0 + ap)) (30 : Int),
 (1 : Int) + Int.tdiv (tp (Int.toNat x0 + ap)) (30 : Int) + Int.tdiv (vp (Int.toNat x0 + ap)) (31 : Int))) (S.snoc x2 false))))
 else (none))
 else (none))
 else (none))))
 else (none))
 else (none))
 else (none))
 else (none))
 else (none))
 else (none))
 else (none))
 else (none))
 else (none))
 else (none))
 else (none))
 else (none))
 else (some (.inr (x1, x2))))
 else (some (.inr (x1, x2)))) : Option (St30 ⊕ Rt30)) = some x) : T30_0 cond Kst Kret ap np mp tp vp o x0 x1 x2 := by
  unfold T30_0
  exact bif_split h
   (fun c0 h => bif_split h
   (fun c1 h => bif_split h
   (fun c2 h => bif_split h
   (fun c3 h => cond_yes c3 (cond_yes rfl (bif_split h
   (fun c4 h => cond_no rfl (bif_split h
   (fun c5 h => cond_yes rfl (bif_split h
   (fun c6 h => cond_no rfl (bif_split h
   (fun c7 h => cond_yes rfl (cond_yes c4 (cond_no rfl (bif_split h
   (fun c8 h => bif_split h
   (fun c9 h => cond_yes rfl (cond_yes c6 (cond_no rfl (bif_split h
   (fun c10 h => bif_split h
   (fun c11 h => bif_split h
   (fun c12 h => bif_split h
   (fun c13 h => cond_yes rfl (bif_split h
   (fun c14 h => no_some h)
   (fun c14 h => bif_split h
   (fun c15 h => bif_split h
   (fun c16 h => bif_split h
   (fun c17 h => cond_yes rfl (bif_split h
   (fun c18 h => stop_at hS _ h (fun n => bif Nat.beq n 1 then 1 else bif Nat.beq n 2 then 2 else bif Nat.beq n 3 then 3 else bif Nat.beq n 4 then 8 else bif Nat.beq n 5 then 10 else n) rfl rfl rfl ⟨(rn_ptr (use_own rfl) rfl rfl), ⟨(rn_ptr (use_own rfl) rfl rfl), ⟨(rn_ptr (use_own rfl) rfl rfl), ⟨(rn_int rfl), trivial⟩⟩⟩⟩ rfl (entl_b (use_own rfl) rfl (by simp) (rb_cells ⟨(rn_loose (use_lo rfl) rfl rfl rfl), (rn_int rfl), trivial⟩) (entl_b (use_own rfl) rfl (by simp) (rb_cells ⟨rn_nils, rn_nils, trivial⟩) (entl_b (use_own rfl) rfl (by simp) (rb_cells ⟨(rn_own (use_own rfl) rfl (snoc_len' rfl)), (rn_own (use_own rfl) rfl (snoc_len' rfl)), trivial⟩) (entl_new (use_own rfl) rfl (Nat.le_of_eq (snoc_len' rfl)) (rcs_int (col_snoc' (fun (t : Int × Int × Int) => t.1) rfl (fun _ _ => rfl)) (rcs_int (col_snoc' (fun (t : Int × Int × Int) => t.2.1) rfl (fun _ _ => rfl)) (rcs_int (col_snoc' (fun (t : Int × Int × Int) => t.2.2) rfl (fun _ _ => rfl)) rcs_nil))) (entl_new (use_own rfl) rfl (Nat.le_of_eq (snoc_len' rfl)) (rcs_bool (col_snoc' (fun (t : Bool) => t) rfl (fun _ _ => rfl)) rcs_nil) (entl_bor (use_lo rfl) rfl rfl entl_nil)))))))
   (fun c18 h => no_some h)))
   (fun c17 h => no_some h))
   (fun c16 h => no_some h))
   (fun c15 h => bif_split h
   (fun c16 h => bif_split h
   (fun c17 h => cond_yes rfl (bif_split h
   (fun c18 h => stop_at hS _ h (fun n => bif Nat.beq n 1 then 1 else bif Nat.beq n 2 then 2 else bif Nat.beq n 3 then 3 else bif Nat.beq n 4 then 8 else bif Nat.beq n 5 then 10 else n) rfl rfl rfl ⟨(rn_ptr (use_own rfl) rfl rfl), ⟨(rn_ptr (use_own rfl) rfl rfl), ⟨(rn_ptr (use_own rfl) rfl rfl), ⟨(rn_int rfl), trivial⟩⟩⟩⟩ rfl (entl_b (use_own rfl) rfl (by simp) (rb_cells ⟨(rn_loose (use_lo rfl) rfl rfl rfl), (rn_int rfl), trivial⟩) (entl_b (use_own rfl) rfl (by simp) (rb_cells ⟨rn_nils, rn_nils, trivial⟩) (entl_b (use_own rfl) rfl (by simp) (rb_cells ⟨(rn_own (use_own rfl) rfl (snoc_len' rfl)), (rn_own (use_own rfl) rfl (snoc_len' rfl)), trivial⟩) (entl_new (use_own rfl) rfl (Nat.le_of_eq (snoc_len' rfl)) (rcs_int (col_snoc' (fun (t : Int × Int × Int) => t.1) rfl (fun _ _ => rfl)) (rcs_int (col_snoc' (fun (t : Int × Int × Int) => t.2.1) rfl (fun _ _ => rfl)) (rcs_int (col_snoc' (fun (t : Int × Int × Int) => t.2.2) rfl (fun _ _ => rfl)) rcs_nil))) (entl_new (use_own rfl) rfl (Nat.le_of_eq (snoc_len' rfl)) (rcs_bool (col_snoc' (fun (t : Bool) => t) rfl (fun _ _ => rfl)) rcs_nil) (entl_bor (use_lo rfl) rfl rfl entl_nil)))))))
   (fun c18 h => no_some h)))
   (fun c17 h => no_some h))
   (fun c16 h => no_some h)))))
   (fun c13 h => no_some h))
   (fun c12 h => no_some h))
   (fun c11 h => no_some h))
   (fun c10 h => no_some h)))))
   (fun c9 h => no_some h))
   (fun c8 h => no_some h)))))
   (fun c7 h => no_some h)))
   (fun c6 h => no_some h)))
   (fun c5 h => no_some h)))
   (fun c4 h => no_some h))))
   (fun c3 h => no_some h))
   (fun c2 h => no_some h))
   (fun c1 h => cond_yes rfl (cond_yes rfl (cond_no rfl (cond_yes rfl (cond_yes rfl (cond_yes rfl (cond_no rfl (cond_yes rfl (cond_yes rfl (cond_yes rfl (cond_no rfl (cond_yes rfl (cond_yes rfl (cond_yes rfl (cond_yes rfl (cond_no rfl (cond_yes rfl (cond_yes rfl (bif_split h
   (fun c2 h => bif_split h
   (fun c3 h => cond_yes rfl (bif_split h
   (fun c4 h => no_some h)
   (fun c4 h => bif_split h
   (fun c5 h => bif_split h
   (fun c6 h => bif_split h
   (fun c7 h => cond_yes rfl (bif_split h
   (fun c8 h => stop_at hS _ h (fun n => bif Nat.beq n 1 then 1 else bif Nat.beq n 2 then 2 else bif Nat.beq n 3 then 3 else bif Nat.beq n 4 then 8 else bif Nat.beq n 5 then 10 else n) rfl rfl rfl ⟨(rn_ptr (use_own rfl) rfl rfl), ⟨(rn_ptr (use_own rfl) rfl rfl), ⟨(rn_ptr (use_own rfl) rfl rfl), ⟨(rn_int rfl), trivial⟩⟩⟩⟩ rfl (entl_b (use_own rfl) rfl (by simp) (rb_cells ⟨(rn_loose (use_lo rfl) rfl rfl rfl), (rn_int rfl), trivial⟩) (entl_b (use_own rfl) rfl (by simp) (rb_cells ⟨rn_nils, rn_nils, trivial⟩) (entl_b (use_own rfl) rfl (by simp) (rb_cells ⟨(rn_own (use_own rfl) rfl (snoc_len' rfl)), (rn_own (use_own rfl) rfl (snoc_len' rfl)), trivial⟩) (entl_new (use_own rfl) rfl (Nat.le_of_eq (snoc_len' rfl)) (rcs_int (col_snoc' (fun (t : Int × Int × Int) => t.1) rfl (fun _ _ => rfl)) (rcs_int (col_snoc' (fun (t : Int × Int × Int) => t.2.1) rfl (fun _ _ => rfl)) (rcs_int (col_snoc' (fun (t : Int × Int × Int) => t.2.2) rfl (fun _ _ => rfl)) rcs_nil))) (entl_new (use_own rfl) rfl (Nat.le_of_eq (snoc_len' rfl)) (rcs_bool (col_snoc' (fun (t : Bool) => t) rfl (fun _ _ => rfl)) rcs_nil) (entl_bor (use_lo rfl) rfl rfl entl_nil)))))))
   (fun c8 h => no_some h)))
   (fun c7 h => no_some h))
   (fun c6 h => no_some h))
   (fun c5 h => bif_split h
   (fun c6 h => bif_split h
   (fun c7 h => cond_yes rfl (bif_split h
   (fun c8 h => stop_at hS _ h (fun n => bif Nat.beq n 1 then 1 else bif Nat.beq n 2 then 2 else bif Nat.beq n 3 then 3 else bif Nat.beq n 4 then 8 else bif Nat.beq n 5 then 10 else n) rfl rfl rfl ⟨(rn_ptr (use_own rfl) rfl rfl), ⟨(rn_ptr (use_own rfl) rfl rfl), ⟨(rn_ptr (use_own rfl) rfl rfl), ⟨(rn_int rfl), trivial⟩⟩⟩⟩ rfl (entl_b (use_own rfl) rfl (by simp) (rb_cells ⟨(rn_loose (use_lo rfl) rfl rfl rfl), (rn_int rfl), trivial⟩) (entl_b (use_own rfl) rfl (by simp) (rb_cells ⟨rn_nils, rn_nils, trivial⟩) (entl_b (use_own rfl) rfl (by simp) (rb_cells ⟨(rn_own (use_own rfl) rfl (snoc_len' rfl)), (rn_own (use_own rfl) rfl (snoc_len' rfl)), trivial⟩) (entl_new (use_own rfl) rfl (Nat.le_of_eq (snoc_len' rfl)) (rcs_int (col_snoc' (fun (t : Int × Int × Int) => t.1) rfl (fun _ _ => rfl)) (rcs_int (col_snoc' (fun (t : Int × Int × Int) => t.2.1) rfl (fun _ _ => rfl)) (rcs_int (col_snoc' (fun (t : Int × Int × Int) => t.2.2) rfl (fun _ _ => rfl)) rcs_nil))) (entl_new (use_own rfl) rfl (Nat.le_of_eq (snoc_len' rfl)) (rcs_bool (col_snoc' (fun (t : Bool) => t) rfl (fun _ _ => rfl)) rcs_nil) (entl_bor (use_lo rfl) rfl rfl entl_nil)))))))
   (fun c8 h => no_some h)))
   (fun c7 h => no_some h))
   (fun c6 h => no_some h)))))
   (fun c3 h => no_some h))
   (fun c2 h => no_some h)))))))))))))))))))))
   (fun c0 h => bif_split h
   (fun c1 h => bif_split h
   (fun c2 h => cond_yes c1 (bif_split h
   (fun c3 h => bif_split h
   (fun c4 h => cond_yes c4 (cond_yes rfl (bif_split h
   (fun c5 h => cond_no rfl (bif_split h
   (fun c6 h => cond_yes rfl (bif_split h
   (fun c7 h => cond_no rfl (bif_split h
   (fun c8 h => cond_yes rfl (cond_yes c5 (cond_no rfl (bif_split h
   (fun c9 h => bif_split h
   (fun c10 h => cond_yes rfl (cond_yes c7 (cond_no rfl (bif_split h
   (fun c11 h => bif_split h
   (fun c12 h => bif_split h
   (fun c13 h => bif_split h
   (fun c14 h => cond_yes rfl (bif_split h
   (fun c15 h => no_some h)
   (fun c15 h => bif_split h
   (fun c16 h => bif_split h
   (fun c17 h => bif_split h
   (fun c18 h => cond_yes rfl (bif_split h
   (fun c19 h => stop_at hS _ h (fun n => bif Nat.beq n 1 then 1 else bif Nat.beq n 2 then 2 else bif Nat.beq n 3 then 3 else bif Nat.beq n 4 then 8 else bif Nat.beq n 5 then 10 else n) rfl rfl rfl ⟨(rn_ptr (use_own rfl) rfl rfl), ⟨(rn_ptr (use_own rfl) rfl rfl), ⟨(rn_ptr (use_own rfl) rfl rfl), ⟨(rn_int rfl), trivial⟩⟩⟩⟩ rfl (entl_b (use_own rfl) rfl (by simp) (rb_cells ⟨(rn_loose (use_lo rfl) rfl rfl rfl), (rn_int rfl), trivial⟩) (entl_b (use_own rfl) rfl (by simp) (rb_cells ⟨rn_nils, rn_nils, trivial⟩) (entl_b (use_own rfl) rfl (by simp) (rb_cells ⟨(rn_own (use_own rfl) rfl (snoc_len' rfl)), (rn_own (use_own rfl) rfl (snoc_len' rfl)), trivial⟩) (entl_new (use_own rfl) rfl (Nat.le_of_eq (snoc_len' rfl)) (rcs_int (col_snoc' (fun (t : Int × Int × Int) => t.1) rfl (fun _ _ => rfl)) (rcs_int (col_snoc' (fun (t : Int × Int × Int) => t.2.1) rfl (fun _ _ => rfl)) (rcs_int (col_snoc' (fun (t : Int × Int × Int) => t.2.2) rfl (fun _ _ => rfl)) rcs_nil))) (entl_new (use_own rfl) rfl (Nat.le_of_eq (snoc_len' rfl)) (rcs_bool (col_snoc' (fun (t : Bool) => t) rfl (fun _ _ => rfl)) rcs_nil) (entl_bor (use_lo rfl) rfl rfl entl_nil)))))))
   (fun c19 h => no_some h)))
   (fun c18 h => no_some h))
   (fun c17 h => no_some h))
   (fun c16 h => bif_split h
   (fun c17 h => bif_split h
   (fun c18 h => cond_yes rfl (bif_split h
   (fun c19 h => stop_at hS _ h (fun n => bif Nat.beq n 1 then 1 else bif Nat.beq n 2 then 2 else bif Nat.beq n 3 then 3 else bif Nat.beq n 4 then 8 else bif Nat.beq n 5 then 10 else n) rfl rfl rfl ⟨(rn_ptr (use_own rfl) rfl rfl), ⟨(rn_ptr (use_own rfl) rfl rfl), ⟨(rn_ptr (use_own rfl) rfl rfl), ⟨(rn_int rfl), trivial⟩⟩⟩⟩ rfl (entl_b (use_own rfl) rfl (by simp) (rb_cells ⟨(rn_loose (use_lo rfl) rfl rfl rfl), (rn_int rfl), trivial⟩) (entl_b (use_own rfl) rfl (by simp) (rb_cells ⟨rn_nils, rn_nils, trivial⟩) (entl_b (use_own rfl) rfl (by simp) (rb_cells ⟨(rn_own (use_own rfl) rfl (snoc_len' rfl)), (rn_own (use_own rfl) rfl (snoc_len' rfl)), trivial⟩) (entl_new (use_own rfl) rfl (Nat.le_of_eq (snoc_len' rfl)) (rcs_int (col_snoc' (fun (t : Int × Int × Int) => t.1) rfl (fun _ _ => rfl)) (rcs_int (col_snoc' (fun (t : Int × Int × Int) => t.2.1) rfl (fun _ _ => rfl)) (rcs_int (col_snoc' (fun (t : Int × Int × Int) => t.2.2) rfl (fun _ _ => rfl)) rcs_nil))) (entl_new (use_own rfl) rfl (Nat.le_of_eq (snoc_len' rfl)) (rcs_bool (col_snoc' (fun (t : Bool) => t) rfl (fun _ _ => rfl)) rcs_nil) (entl_bor (use_lo rfl) rfl rfl entl_nil)))))))
   (fun c19 h => no_some h)))
   (fun c18 h => no_some h))
   (fun c17 h => no_some h)))))
   (fun c14 h => no_some h))
   (fun c13 h => no_some h))
   (fun c12 h => no_some h))
   (fun c11 h => no_some h)))))
   (fun c10 h => no_some h))
   (fun c9 h => no_some h)))))
   (fun c8 h => no_some h)))
   (fun c7 h => no_some h)))
   (fun c6 h => no_some h)))
   (fun c5 h => no_some h))))
   (fun c4 h => no_some h))
   (fun c3 h => no_some h)))
   (fun c2 h => ret_at hR _ h (fun n => bif Nat.beq n 2 then 4 else bif Nat.beq n 3 then 5 else n) rfl rfl rfl (rn_agg ⟨(rn_own (use_own rfl) rfl rfl), (rn_own (use_own rfl) rfl rfl), trivial⟩) rfl (entl_new (use_own rfl) rfl (Nat.le_of_eq rfl) (rcs_int (fun _ _ => rfl) (rcs_int (fun _ _ => rfl) (rcs_int (fun _ _ => rfl) rcs_nil))) (entl_new (use_own rfl) rfl (Nat.le_of_eq rfl) (rcs_bool (fun _ _ => rfl) rcs_nil) (entl_bor (use_lo rfl) rfl rfl entl_nil)))))
   (fun c1 h => ret_at hR _ h (fun n => bif Nat.beq n 2 then 4 else bif Nat.beq n 3 then 5 else n) rfl rfl rfl (rn_agg ⟨(rn_own (use_own rfl) rfl rfl), (rn_own (use_own rfl) rfl rfl), trivial⟩) rfl (entl_new (use_own rfl) rfl (Nat.le_of_eq rfl) (rcs_int (fun _ _ => rfl) (rcs_int (fun _ _ => rfl) (rcs_int (fun _ _ => rfl) rcs_nil))) (entl_new (use_own rfl) rfl (Nat.le_of_eq rfl) (rcs_bool (fun _ _ => rfl) rcs_nil) (entl_bor (use_lo rfl) rfl rfl entl_nil)))))
theorem a30 (ap np mp : Nat) (tp : Nat → Int) (vp : Nat → Int) (o : Int) {r : Rt30} (h : Goes ((q30 ap np mp tp vp o)) ((p30 ap np mp tp vp o)) r) : CallR Try.prog 30 [.agg [.loose ⟨0, 2, ap, 0⟩ np, .int .u32 o]] [[(0, (false, .cols mp [.int .u8 tp, .int .u8 vp]))]] 1 ((V30 ap np mp tp vp o) r) ((fun r => [newL (1 + 1) ((N30 ap np mp tp vp o) r) ++ [(0, (false, .cols mp [.int .u8 tp, .int .u8 vp]))]]) r) 400 ∧ ∃ F, Try.prog.funcs[30]? = some F ∧ F.body.isSome = true ∧ (F.name == "runtime.NumGoroutine") = false := by
  refine dec_calls (f := 30) (lo := 1) (hi := 400) (H := [[(0, (false, .cols mp [.int .u8 tp, .int .u8 vp]))]]) (args := [.agg [.loose ⟨0, 2, ap, 0⟩ np, .int .u32 o]]) Try.envOk Try.mixed yD5_ok ((I30 ap np mp tp vp o)) ((V30 ap np mp tp vp o)) (fun r => [newL (1 + 1) ((N30 ap np mp tp vp o) r) ++ [(0, (false, .cols mp [.int .u8 tp, .int .u8 vp]))]]) (fn := mkFn Try.f30) (ts := [1, 2, 3, 4]) (n := 400) rfl (by decide) (by simp) (names_of rfl) ?_ ?_ ?_ h
  · intro s; cases s <;> exact ⟨hd_ok _ _, by simp [I30], names_of rfl, Nat.le_of_ble_eq_true rfl⟩
  · intro Kst Kret x hS hR h
    exact Holds.eq (te30 cond Kst Kret ap np mp tp vp o) (be30 ap np mp tp vp o Kst Kret x hS hR h)
  · intro Kst Kret x hS hR s h
    cases s with
    | h0 x0 x1 x2 => exact Holds.eq (t30_0 cond Kst Kret ap np mp tp vp o x0 x1 x2) (b30_0 ap np mp tp vp o Kst Kret x hS hR x0 x1 x2 h)
noncomputable def k30 : Con := ⟨30, [.agg [.list [.int .u8, .int .u8], .plain (.int .u32)]], fun (x : ((Nat × Nat × Nat × (Nat → Int) × (Nat → Int) × Unit) × Int × Unit) × Unit) => (fun (ap np mp : Nat) (tp : Nat → Int) (vp : Nat → Int) (o : Int) => decide (ap + np ≤ mp ∧ S.bytes np (fun j => tp (j + ap)) = true ∧ S.bytes np (fun j => vp (j + ap)) = true)) x.1.1.1 x.1.1.2.1 x.1.1.2.2.1 x.1.1.2.2.2.1 x.1.1.2.2.2.2.1 x.1.2.1, fun (x : ((Nat × Nat × Nat × (Nat → Int) × (Nat → Int) × Unit) × Int × Unit) × Unit) => (fun (ap np mp : Nat) (tp : Nat → Int) (vp : Nat → Int) (o : Int) => (V30 ap np mp tp vp o) ((S.mkl (S.mdN np) fun j => S.mdR np (fun j => tp (j + ap)) (fun j => vp (j + ap)) j, S.mkl (S.mdN np) fun j => S.mdB o j))) x.1.1.1 x.1.1.2.1 x.1.1.2.2.1 x.1.1.2.2.2.1 x.1.1.2.2.2.2.1 x.1.2.1, fun (x : ((Nat × Nat × Nat × (Nat → Int) × (Nat → Int) × Unit) × Int × Unit) × Unit) => (fun (ap np mp : Nat) (tp : Nat → Int) (vp : Nat → Int) (o : Int) => (N30 ap np mp tp vp o) ((S.mkl (S.mdN np) fun j => S.mdR np (fun j => tp (j + ap)) (fun j => vp (j + ap)) j, S.mkl (S.mdN np) fun j => S.mdB o j))) x.1.1.1 x.1.1.2.1 x.1.1.2.2.1 x.1.1.2.2.2.1 x.1.1.2.2.2.2.1 x.1.2.1, fun _ _ => .dead⟩
theorem s30' (ap np mp : Nat) (tp : Nat → Int) (vp : Nat → Int) (o : Int) (hp : ap + np ≤ mp ∧ S.bytes np (fun j => tp (j + ap)) = true ∧ S.bytes np (fun j => vp (j + ap)) = true) : ∀ (k i : Nat) (lr : List (Int × Int × Int)) (lo : List Bool), i + k = S.mdN np → Holds (lr = S.mkl i fun j => S.mdR np (fun j => tp (j + ap)) (fun j => vp (j + ap)) j) → Holds (lo = S.mkl i fun j => S.mdB o j) → Comes (q30 ap np mp tp vp o) (.h0 (i : Int) lr lo) ((S.mkl (S.mdN np) fun j => S.mdR np (fun j => tp (j + ap)) (fun j => vp (j + ap)) j, S.mkl (S.mdN np) fun j => S.mdB o j)) := by
  obtain ⟨hp1, hp2, hp3⟩ := hp
  intro k
  induction k with
  | zero =>
    intro i lr lo hi elr elo
    obtain ⟨n1, n2, n3, n4, n5⟩ := mdN_le (np := np)
    have hlr : lr.length = i := by rw [elr.get]; exact mkl_len
    have hlo : lo.length = i := by rw [elo.get]; exact mkl_len
    generalize hN : S.mdN np = n at *
    apply Comes.of
    show Goes _ _ _
    unfold q30
    repeat' first
      | with_reducible refine goes_if (fun h => ?_) (fun h => ?_) <;> (try simp only [lim64, decide_eq_true_eq, decide_eq_false_iff_not, Int.toNat_natCast, toNat_pred, toNat_succ, Option.getD_some, Option.getD_none, Bool.not_eq_true', Bool.not_eq_false', Bool.and_eq_true, Bool.or_eq_true, Bool.and_eq_false_iff, Bool.or_eq_false_iff, bne_iff_ne, beq_iff_eq, bne_eq_false_iff_eq, beq_eq_false_iff_ne, ne_eq, not_and, Int.not_le, Int.not_lt, ge_iff_le, gt_iff_lt, Nat.not_lt, Nat.not_le, Bool.not_eq_true, Bool.not_eq_false, Bool.true_eq_false, Bool.false_eq_true, not_false_eq_true, not_true_eq_false] at h)
      | exact goes_none.mpr (by omega)
    all_goals first | (exfalso; omega) | (obtain rfl : S.mdN np = i := (by omega);  refine goes_inr.mpr ?_; rw [elr.get, elo.get, hN])
  | succ k ih =>
    intro i lr lo hi elr elo
    obtain ⟨n1, n2, n3, n4, n5⟩ := mdN_le (np := np)
    have hlr : lr.length = i := by rw [elr.get]; exact mkl_len
    have hlo : lo.length = i := by rw [elo.get]; exact mkl_len
    generalize hN : S.mdN np = n at *
    have b1 : i < np → _ := fun h => of_decide_eq_true hp2 i h
    have b2 : i < np → _ := fun h => of_decide_eq_true hp3 i h
    simp only at b1 b2
    have c1 : i < np → _ := fun h => byte_div (b1 h)
    have c2 : i < np → _ := fun h => byte_div (b2 h)
    apply Comes.of
    show Goes _ _ _
    unfold q30
    repeat' first
      | with_reducible refine goes_if (fun h => ?_) (fun h => ?_) <;> (try simp only [lim64, decide_eq_true_eq, decide_eq_false_iff_not, Int.toNat_natCast, toNat_pred, toNat_succ, Option.getD_some, Option.getD_none, Bool.not_eq_true', Bool.not_eq_false', Bool.and_eq_true, Bool.or_eq_true, Bool.and_eq_false_iff, Bool.or_eq_false_iff, bne_iff_ne, beq_iff_eq, bne_eq_false_iff_eq, beq_eq_false_iff_ne, ne_eq, not_and, Int.not_le, Int.not_lt, ge_iff_le, gt_iff_lt, Nat.not_lt, Nat.not_le, Bool.not_eq_true, Bool.not_eq_false, Bool.true_eq_false, Bool.false_eq_true, not_false_eq_true, not_true_eq_false] at h)
      | exact goes_none.mpr (by omega)
    all_goals first
      | (exfalso; omega)
      | (refine ih (i + 1) _ _ (by omega) ⟨?_⟩ ⟨?_⟩ <;> first | (rw [elr.get, mkl_succ]; refine congrArg (S.snoc _) ?_; unfold S.mdR; first | (rw [if_pos (by omega)]; rfl) | (rw [if_neg (by omega)])) | (rw [elo.get, mkl_succ]; refine congrArg (S.snoc _) ?_; unfold S.mdB; symm; first | (rw [beq_iff_eq]; assumption) | (rw [beq_eq_false_iff_ne]; assumption)))
      | (refine ih (i + 1) _ _ (by omega) ⟨?_⟩ ⟨?_⟩ <;> (skip))
theorem s30 (ap np mp : Nat) (tp : Nat → Int) (vp : Nat → Int) (o : Int) (hp : ap + np ≤ mp ∧ S.bytes np (fun j => tp (j + ap)) = true ∧ S.bytes np (fun j => vp (j + ap)) = true) : Goes ((q30 ap np mp tp vp o)) ((p30 ap np mp tp vp o)) ((S.mkl (S.mdN np) fun j => S.mdR np (fun j => tp (j + ap)) (fun j => vp (j + ap)) j, S.mkl (S.mdN np) fun j => S.mdB o j)) := by
  exact s30' ap np mp tp vp o hp (S.mdN np) 0 [] [] (by omega) ⟨rfl⟩ ⟨rfl⟩

theorem k30_ok : k30.ok Try.prog := by
  intro x hx
  obtain ⟨⟨⟨ap, np, mp, tp, vp, _⟩, o, _⟩, _⟩ := x
  obtain ⟨h1, h2⟩ := a30 ap np mp tp vp o (s30 ap np mp tp vp o (of_decide_eq_true hx))
  exact ⟨⟨400, (by decide : 1 + 1 + 2 ≤ 400), h1⟩, h2⟩


end Go.Ev
