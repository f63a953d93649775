/-
  The program's Valid.
-/
import Derived.Test.YtamccaclkkgkbaaV0
namespace Go.Ev
open Go.Proofs
set_option linter.unusedVariables false
set_option linter.unusedSimpArgs false
set_option maxRecDepth 100000
inductive St14 where
  | h0 (x0 : Int)
  | h1 (x0 : Int) (x1 : Int)
  | h2 (x0 : Int)
abbrev Rt14 := Int
noncomputable def V14 (ac nc mc : Nat) (tc : Nat → ByteArray) (vc : Nat → ByteArray) (gc : Nat → Int) (wc : Nat → Bool) (an nn mn : Nat) (tn : Nat → Int) (ag ng mg : Nat) (tg : Nat → Int) (vg : Nat → Int) (rc : Int) (r : Rt14) : PV := PV.int IntKind.i64 r
noncomputable def N14 (ac nc mc : Nat) (tc : Nat → ByteArray) (vc : Nat → ByteArray) (gc : Nat → Int) (wc : Nat → Bool) (an nn mn : Nat) (tn : Nat → Int) (ag ng mg : Nat) (tg : Nat → Int) (vg : Nat → Int) (rc : Int) (r : Rt14) : List Blk := []
noncomputable def I14 (ac nc mc : Nat) (tc : Nat → ByteArray) (vc : Nat → ByteArray) (gc : Nat → Int) (wc : Nat → Bool) (an nn mn : Nat) (tn : Nat → Int) (ag ng mg : Nat) (tg : Nat → Int) (vg : Nat → Int) (rc : Int) : St14 → Hd
  | .h0 x0 => ⟨hd Try.f14 0, [PV.ptr (PA.mk (3) (0) (0) (0)), PV.unk,
 PV.loose (PA.mk (0) (4) ac (0)) nc, PV.int IntKind.i64 (↑nc : Int),
 PV.int IntKind.i64 x0, PV.unk, PV.unk, PV.unk, PV.unk, PV.unk, PV.unk], [[(3, (true, Blk.cells
 [PV.loose (PA.mk (0) (4) ac (0)) nc,
 PV.loose (PA.mk (1) (1) an (0)) nn,
 PV.loose (PA.mk (2) (2) ag (0)) ng, PV.int IntKind.i64 rc]))], [(0, (false, .cols mc [.str tc, .str vc, .int .i64 gc, .bool wc])), (1, (false, .cols mn [.int .i64 tn])), (2, (false, .cols mg [.int .i64 tg, .int .i64 vg]))]], 4⟩
  | .h1 x0 x1 => ⟨hd Try.f14 1, [PV.ptr (PA.mk (3) (0) (0) (0)), PV.int IntKind.i64 x0,
 PV.unk, PV.unk, PV.unk, PV.loose (PA.mk (1) (1) an (0)) nn,
 PV.int IntKind.i64 (↑nn : Int), PV.int IntKind.i64 x1, PV.unk, PV.unk, PV.unk], [[(3, (true, Blk.cells
 [PV.loose (PA.mk (0) (4) ac (0)) nc,
 PV.loose (PA.mk (1) (1) an (0)) nn,
 PV.loose (PA.mk (2) (2) ag (0)) ng, PV.int IntKind.i64 rc]))], [(0, (false, .cols mc [.str tc, .str vc, .int .i64 gc, .bool wc])), (1, (false, .cols mn [.int .i64 tn])), (2, (false, .cols mg [.int .i64 tg, .int .i64 vg]))]], 4⟩
  | .h2 x0 => ⟨hd Try.f14 2, [PV.ptr (PA.mk (3) (0) (0) (0)), PV.unk, PV.unk, PV.unk,
 PV.unk, PV.unk, PV.unk, PV.unk,
 PV.loose (PA.mk (2) (2) ag (0)) ng, PV.int IntKind.i64 (↑ng : Int),
 PV.int IntKind.i64 x0], [[(3, (true, Blk.cells
 [PV.loose (PA.mk (0) (4) ac (0)) nc,
 PV.loose (PA.mk (1) (1) an (0)) nn,
 PV.loose (PA.mk (2) (2) ag (0)) ng, PV.int IntKind.i64 rc]))], [(0, (false, .cols mc [.str tc, .str vc, .int .i64 gc, .bool wc])), (1, (false, .cols mn [.int .i64 tn])), (2, (false, .cols mg [.int .i64 tg, .int .i64 vg]))]], 4⟩
noncomputable def q14 (ac nc mc : Nat) (tc : Nat → ByteArray) (vc : Nat → ByteArray) (gc : Nat → Int) (wc : Nat → Bool) (an nn mn : Nat) (tn : Nat → Int) (ag ng mg : Nat) (tg : Nat → Int) (vg : Nat → Int) (rc : Int) : St14 → Option (St14 ⊕ Rt14)
  | .h0 x0 => bif (decide (x0 < (↑nc : Int)))
 then (bif (decide ((0 : Int) ≤ x0 ∧ x0 < (↑nc : Int)))
 then (bif (decide (Int.toNat x0 + ac < mc))
 then (bif (S.isNam (tc (Int.toNat x0 + ac)))
 then (bif (S.isNam (vc (Int.toNat x0 + ac)))
 then (bif (decide ((0 : Int) ≤ Option.getD Option.none (0 : Int) ∧ (0 : Int) ≤ x0 ∧ x0 ≤ (↑nc : Int)))
 then (bif (decide (0 + ac + Int.toNat x0 ≤ mc ∧ Int.toNat x0 ≤ 1000000))
 then (bif (S.any (fun (j : Nat) => S.eqS (tc (j + (0 + ac))) (tc (Int.toNat x0 + ac))) (Int.toNat x0))
 then (some (.inr ((5 : Int))))
 else (bif (decide (gc (Int.toNat x0 + ac) ≥ (1 : Int)))
 then (bif (decide (gc (Int.toNat x0 + ac) ≤ (200 : Int)))
 then (bif (lim IntKind.i64 (x0 + (1 : Int)))
 then (some (.inl (.h0 (x0 + (1 : Int)))))
 else (none))
 else (some (.inr ((6 : Int)))))
 else (some (.inr ((6 : Int))))))
 else (none))
 else (none))
 else (some (.inr ((2 : Int)))))
 else (some (.inr ((2 : Int)))))
 else (none))
 else (none))
 else (bif ((↑nn : Int) != (↑nc : Int))
 then (some (.inr ((6 : Int))))
 else (some (.inl (.h1 ((0 : Int)) ((0 : Int))))))
  | .h1 x0 x1 => bif (decide (x1 < (↑nn : Int)))
 then (bif (decide ((0 : Int) ≤ x1 ∧ x1 < (↑nn : Int)))
 then (bif (decide (Int.toNat x1 + an < mn))
 then (bif (decide (tn (Int.toNat x1 + an) ≥ (0 : Int)))
 then (bif (decide (tn (Int.toNat x1 + an) ≤ (4 : Int)))
 then (bif (lim IntKind.i64 (x0 + tn (Int.toNat x1 + an)))
 then (bif (lim IntKind.i64 (x1 + (1 : Int)))
 then (some (.inl (.h1 (x0 + tn (Int.toNat x1 + an)) (x1 + (1 : Int)))))
 else (none))
 else (none))
 else (some (.inr ((6 : Int)))))
 else (some (.inr ((6 : Int)))))
 else (none))
 else (none))
 else (bif (decide (x0 ≥ (1 : Int)))
 then (bif (decide (x0 ≤ (8 : Int)))
 then (bif (decide ((↑ng : Int) > (36 : Int)))
 then (some (.inr ((3 : Int))))
 else (some (.inl (.h2 ((0 : Int))))))
 else (some (.inr ((6 : Int)))))
 else (some (.inr ((6 : Int)))))
  | .h2 x0 => bif (decide (x0 < (↑ng : Int)))
 then (bif (decide ((0 : Int) ≤ x0 ∧ x0 < (↑ng : Int)))
 then (bif (decide (Int.toNat x0 + ag < mg))
 then (bif (lim IntKind.i64 ((↑nc : Int) - (1 : Int)))
 then (bif (decide (tg (Int.toNat x0 + ag) ≥ (0 : Int)))
 then (bif (decide (tg (Int.toNat x0 + ag) ≤ (↑nc : Int) - (1 : Int)))
 then (bif (decide (vg (Int.toNat x0 + ag) ≥ (0 : Int)))
 then (bif (decide (vg (Int.toNat x0 + ag) ≤ (↑nc : Int) - (1 : Int)))
 then (bif (decide ((0 : Int) ≤ Option.getD Option.none (0 : Int) ∧ (0 : Int) ≤ x0 ∧ x0 ≤ (↑ng : Int)))
 then (bif (decide (0 + ag + Int.toNat x0 ≤ mg ∧ Int.toNat x0 ≤ 1000000))
 then (bif (S.any
 (fun (j : Nat) =>
 decide (tg (j + (0 + ag)) = tg (Int.toNat x0 + ag)) &&
 decide (vg (j + (0 + ag)) = vg (Int.toNat x0 + ag)))
 (Int.toNat x0))
 then (some (.inr ((5 : Int))))
 else (bif (lim IntKind.i64 (x0 + (1 : Int)))
 then (some (.inl (.h2 (x0 + (1 : Int)))))
 else (none)))
 else (none))
 else (none))
 else (some (.inr ((6 : Int)))))
 else (some (.inr ((6 : Int)))))
 else (some (.inr ((6 : Int)))))
 else (some (.inr ((6 : Int)))))
 else (none))
 else (none))
 else (none))
 else (bif (decide (rc ≥ (0 : Int)))
 then (bif (decide (rc ≤ (1000 : Int)))
 then (some (.inr ((0 : Int))))
 else (some (.inr ((6 : Int)))))
 else (some (.inr ((6 : Int)))))
noncomputable def p14 (ac nc mc : Nat) (tc : Nat → ByteArray) (vc : Nat → ByteArray) (gc : Nat → Int) (wc : Nat → Bool) (an nn mn : Nat) (tn : Nat → Int) (ag ng mg : Nat) (tg : Nat → Int) (vg : Nat → Int) (rc : Int) : Option (St14 ⊕ Rt14) := bif ((↑nc : Int) == (0 : Int))
 then (some (.inr ((7 : Int))))
 else (bif (decide ((↑nc : Int) > (6 : Int)))
 then (some (.inr ((3 : Int))))
 else (some (.inl (.h0 ((0 : Int))))))
noncomputable def Te14 (test : Bool → Prop → Prop → Prop) (Kst : KS) (Kret : KR) (ac nc mc : Nat) (tc : Nat → ByteArray) (vc : Nat → ByteArray) (gc : Nat → Int) (wc : Nat → Bool) (an nn mn : Nat) (tn : Nat → Int) (ag ng mg : Nat) (tg : Nat → Int) (vg : Nat → Int) (rc : Int) : Prop :=
  test ((↑nc : Int) == (0 : Int))
 (Kret (PV.int IntKind.i64 (7 : Int)) ([[(2, false, Blk.cols mg [Col.int IntKind.i64 tg, Col.int IntKind.i64 vg]),
 (1, false, Blk.cols mn [Col.int IntKind.i64 tn]),
 (0, false,
 Blk.cols mc [Col.str tc, Col.str vc, Col.int IntKind.i64 gc, Col.bool wc])]]) (4))
 (test (decide ((↑nc : Int) > (6 : Int)))
 (Kret (PV.int IntKind.i64 (3 : Int)) ([[(2, false, Blk.cols mg [Col.int IntKind.i64 tg, Col.int IntKind.i64 vg]),
 (1, false, Blk.cols mn [Col.int IntKind.i64 tn]),
 (0, false,
 Blk.cols mc [Col.str tc, Col.str vc, Col.int IntKind.i64 gc, Col.bool wc])]]) (4))
 (Kst (hd Try.f14 0) ([PV.ptr (PA.mk (3) (0) (0) (0)), PV.unk,
 PV.loose (PA.mk (0) (4) ac (0)) nc, PV.int IntKind.i64 (↑nc : Int),
 PV.int IntKind.i64 (0 : Int), PV.unk, PV.unk, PV.unk, PV.unk, PV.unk,
 PV.unk]) ([[(2, false, Blk.cols mg [Col.int IntKind.i64 tg, Col.int IntKind.i64 vg]),
 (1, false, Blk.cols mn [Col.int IntKind.i64 tn]),
 (0, false,
 Blk.cols mc [Col.str tc, Col.str vc, Col.int IntKind.i64 gc, Col.bool wc]),
 (3, true,
 Blk.cells
 [PV.loose (PA.mk (0) (4) ac (0)) nc,
 PV.loose (PA.mk (1) (1) an (0)) nn,
 PV.loose (PA.mk (2) (2) ag (0)) ng, PV.int IntKind.i64 rc])]]) (4)))
set_option maxRecDepth 100000 in
theorem te14 (test : Bool → Prop → Prop → Prop) (Kst : KS) (Kret : KR) (ac nc mc : Nat) (tc : Nat → ByteArray) (vc : Nat → ByteArray) (gc : Nat → Int) (wc : Nat → Bool) (an nn mn : Nat) (tn : Nat → Int) (ag ng mg : Nat) (tg : Nat → Int) (vg : Nat → Int) (rc : Int) : run test Try.env true (xV test) true 400 ⟨14, [.cd (mkFn Try.f14).body], argT 0 [.agg [.loose ⟨0, 4, ac, 0⟩ nc, .loose ⟨1, 1, an, 0⟩ nn, .loose ⟨2, 2, ag, 0⟩ ng, .int .i64 rc]], [[], [(0, (false, .cols mc [.str tc, .str vc, .int .i64 gc, .bool wc])), (1, (false, .cols mn [.int .i64 tn])), (2, (false, .cols mg [.int .i64 tg, .int .i64 vg]))]], 3⟩ (proj 3 [1, 5, 19, 20, 21, 58, 59, 60, 79, 80, 81] Kst Kret) =
  Te14 test Kst Kret ac nc mc tc vc gc wc an nn mn tn ag ng mg tg vg rc := by kernel_rfl
noncomputable def T14_0 (test : Bool → Prop → Prop → Prop) (Kst : KS) (Kret : KR) (ac nc mc : Nat) (tc : Nat → ByteArray) (vc : Nat → ByteArray) (gc : Nat → Int) (wc : Nat → Bool) (an nn mn : Nat) (tn : Nat → Int) (ag ng mg : Nat) (tg : Nat → Int) (vg : Nat → Int) (rc : Int) (x0 : Int) : Prop :=
  test (decide (x0 < (↑nc : Int)))
 (test (decide ((0 : Int) ≤ x0 ∧ x0 < (↑nc : Int)))
 (test (decide (Int.toNat x0 + ac < mc))
 (test (decide (Int.toNat x0 + ac < mc))
 (test (decide (Int.toNat x0 + ac < mc))
 (test (decide (Int.toNat x0 + ac < mc))
 (test (true)
 (test (S.isNam (tc (Int.toNat x0 + ac)))
 (test (true)
 (test (S.isNam (vc (Int.toNat x0 + ac)))
 (test (decide ((0 : Int) ≤ Option.getD Option.none (0 : Int) ∧ (0 : Int) ≤ x0 ∧ x0 ≤ (↑nc : Int)))
 (test (decide (0 + ac + Int.toNat x0 ≤ mc ∧ Int.toNat x0 ≤ 1000000))
 (test (S.any (fun (j : Nat) => S.eqS (tc (j + (0 + ac))) (tc (Int.toNat x0 + ac))) (Int.toNat x0))
 (Kret (PV.int IntKind.i64 (5 : Int)) ([[(2, false, Blk.cols mg [Col.int IntKind.i64 tg, Col.int IntKind.i64 vg]),
 (1, false, Blk.cols mn [Col.int IntKind.i64 tn]),
 (0, false,
 Blk.cols mc [Col.str tc, Col.str vc, Col.int IntKind.i64 gc, Col.bool wc])]]) (8))
 (test (decide (gc (Int.toNat x0 + ac) ≥ (1 : Int)))
 (test (decide (gc (Int.toNat x0 + ac) ≤ (200 : Int)))
 (test (lim IntKind.i64 (x0 + (1 : Int)))
 (Kst (hd Try.f14 0) ([PV.ptr (PA.mk (3) (0) (0) (0)), PV.unk,
 PV.loose (PA.mk (0) (4) ac (0)) nc, PV.int IntKind.i64 (↑nc : Int),
 PV.int IntKind.i64 (x0 + (1 : Int)), PV.unk, PV.unk, PV.unk, PV.unk, PV.unk,
 PV.unk]) ([[(2, false, Blk.cols mg [Col.int IntKind.i64 tg, Col.int IntKind.i64 vg]),
 (1, false, Blk.cols mn [Col.int IntKind.i64 tn]),
 (0, false,
 Blk.cols mc [Col.str tc, Col.str vc, Col.int IntKind.i64 gc, Col.bool wc]),
 (3, true,
 Blk.cells
 [PV.loose (PA.mk (0) (4) ac (0)) nc,
 PV.loose (PA.mk (1) (1) an (0)) nn,
 PV.loose (PA.mk (2) (2) ag (0)) ng, PV.int IntKind.i64 rc])]]) (8))
 (False))
 (Kret (PV.int IntKind.i64 (6 : Int)) ([[(2, false, Blk.cols mg [Col.int IntKind.i64 tg, Col.int IntKind.i64 vg]),
 (1, false, Blk.cols mn [Col.int IntKind.i64 tn]),
 (0, false,
 Blk.cols mc [Col.str tc, Col.str vc, Col.int IntKind.i64 gc, Col.bool wc])]]) (8)))
 (Kret (PV.int IntKind.i64 (6 : Int)) ([[(2, false, Blk.cols mg [Col.int IntKind.i64 tg, Col.int IntKind.i64 vg]),
 (1, false, Blk.cols mn [Col.int IntKind.i64 tn]),
 (0, false,
 Blk.cols mc [Col.str tc, Col.str vc, Col.int IntKind.i64 gc, Col.bool wc])]]) (8))))
 (False))
 (False))
 (Kret (PV.int IntKind.i64 (2 : Int)) ([[(2, false, Blk.cols mg [Col.int IntKind.i64 tg, Col.int IntKind.i64 vg]),
 (1, false, Blk.cols mn [Col.int IntKind.i64 tn]),
 (0, false,
 Blk.cols mc [Col.str tc, Col.str vc, Col.int IntKind.i64 gc, Col.bool wc])]]) (7)))
 (False))
 (Kret (PV.int IntKind.i64 (2 : Int)) ([[(2, false, Blk.cols mg [Col.int IntKind.i64 tg, Col.int IntKind.i64 vg]),
 (1, false, Blk.cols mn [Col.int IntKind.i64 tn]),
 (0, false,
 Blk.cols mc [Col.str tc, Col.str vc, Col.int IntKind.i64 gc, Col.bool wc])]]) (6)))
 (False))
 (False))
 (False))
 (False))
 (False))
 (False))
 (test ((↑nn : Int) != (↑nc : Int))
 (Kret (PV.int IntKind.i64 (6 : Int)) ([[(2, false, Blk.cols mg [Col.int IntKind.i64 tg, Col.int IntKind.i64 vg]),
 (1, false, Blk.cols mn [Col.int IntKind.i64 tn]),
 (0, false,
 Blk.cols mc [Col.str tc, Col.str vc, Col.int IntKind.i64 gc, Col.bool wc])]]) (4))
 (Kst (hd Try.f14 1) ([PV.ptr (PA.mk (3) (0) (0) (0)), PV.int IntKind.i64 (0 : Int),
 PV.loose (PA.mk (0) (4) ac (0)) nc, PV.int IntKind.i64 (↑nc : Int),
 PV.int IntKind.i64 x0, PV.loose (PA.mk (1) (1) an (0)) nn,
 PV.int IntKind.i64 (↑nn : Int), PV.int IntKind.i64 (0 : Int), PV.unk, PV.unk,
 PV.unk]) ([[(2, false, Blk.cols mg [Col.int IntKind.i64 tg, Col.int IntKind.i64 vg]),
 (1, false, Blk.cols mn [Col.int IntKind.i64 tn]),
 (0, false,
 Blk.cols mc [Col.str tc, Col.str vc, Col.int IntKind.i64 gc, Col.bool wc]),
 (3, true,
 Blk.cells
 [PV.loose (PA.mk (0) (4) ac (0)) nc,
 PV.loose (PA.mk (1) (1) an (0)) nn,
 PV.loose (PA.mk (2) (2) ag (0)) ng, PV.int IntKind.i64 rc])]]) (4)))
set_option maxRecDepth 100000 in
theorem t14_0 (test : Bool → Prop → Prop → Prop) (Kst : KS) (Kret : KR) (ac nc mc : Nat) (tc : Nat → ByteArray) (vc : Nat → ByteArray) (gc : Nat → Int) (wc : Nat → Bool) (an nn mn : Nat) (tn : Nat → Int) (ag ng mg : Nat) (tg : Nat → Int) (vg : Nat → Int) (rc : Int) (x0 : Int) : run test Try.env true (xV test) true 400 ⟨14, hd Try.f14 0, zipT [1, 5, 19, 20, 21, 58, 59, 60, 79, 80, 81] [PV.ptr (PA.mk (3) (0) (0) (0)), PV.unk,
 PV.loose (PA.mk (0) (4) ac (0)) nc, PV.int IntKind.i64 (↑nc : Int),
 PV.int IntKind.i64 x0, PV.unk, PV.unk, PV.unk, PV.unk, PV.unk, PV.unk], [[(3, (true, Blk.cells
 [PV.loose (PA.mk (0) (4) ac (0)) nc,
 PV.loose (PA.mk (1) (1) an (0)) nn,
 PV.loose (PA.mk (2) (2) ag (0)) ng, PV.int IntKind.i64 rc]))], [(0, (false, .cols mc [.str tc, .str vc, .int .i64 gc, .bool wc])), (1, (false, .cols mn [.int .i64 tn])), (2, (false, .cols mg [.int .i64 tg, .int .i64 vg]))]], 4⟩ (proj 3 [1, 5, 19, 20, 21, 58, 59, 60, 79, 80, 81] Kst Kret) =
  T14_0 test Kst Kret ac nc mc tc vc gc wc an nn mn tn ag ng mg tg vg rc x0 := by kernel_rfl
noncomputable def T14_1 (test : Bool → Prop → Prop → Prop) (Kst : KS) (Kret : KR) (ac nc mc : Nat) (tc : Nat → ByteArray) (vc : Nat → ByteArray) (gc : Nat → Int) (wc : Nat → Bool) (an nn mn : Nat) (tn : Nat → Int) (ag ng mg : Nat) (tg : Nat → Int) (vg : Nat → Int) (rc : Int) (x0 : Int) (x1 : Int) : Prop :=
  test (decide (x1 < (↑nn : Int)))
 (test (decide ((0 : Int) ≤ x1 ∧ x1 < (↑nn : Int)))
 (test (decide (Int.toNat x1 + an < mn))
 (test (decide (tn (Int.toNat x1 + an) ≥ (0 : Int)))
 (test (decide (tn (Int.toNat x1 + an) ≤ (4 : Int)))
 (test (lim IntKind.i64 (x0 + tn (Int.toNat x1 + an)))
 (test (lim IntKind.i64 (x1 + (1 : Int)))
 (Kst (hd Try.f14 1) ([PV.ptr (PA.mk (3) (0) (0) (0)),
 PV.int IntKind.i64 (x0 + tn (Int.toNat x1 + an)), PV.unk, PV.unk, PV.unk,
 PV.loose (PA.mk (1) (1) an (0)) nn, PV.int IntKind.i64 (↑nn : Int),
 PV.int IntKind.i64 (x1 + (1 : Int)), PV.unk, PV.unk, PV.unk]) ([[(2, false, Blk.cols mg [Col.int IntKind.i64 tg, Col.int IntKind.i64 vg]),
 (1, false, Blk.cols mn [Col.int IntKind.i64 tn]),
 (0, false,
 Blk.cols mc [Col.str tc, Col.str vc, Col.int IntKind.i64 gc, Col.bool wc]),
 (3, true,
 Blk.cells
 [PV.loose (PA.mk (0) (4) ac (0)) nc,
 PV.loose (PA.mk (1) (1) an (0)) nn,
 PV.loose (PA.mk (2) (2) ag (0)) ng, PV.int IntKind.i64 rc])]]) (4))
 (False))
 (False))
 (Kret (PV.int IntKind.i64 (6 : Int)) ([[(2, false, Blk.cols mg [Col.int IntKind.i64 tg, Col.int IntKind.i64 vg]),
 (1, false, Blk.cols mn [Col.int IntKind.i64 tn]),
 (0, false,
 Blk.cols mc [Col.str tc, Col.str vc, Col.int IntKind.i64 gc, Col.bool wc])]]) (4)))
 (Kret (PV.int IntKind.i64 (6 : Int)) ([[(2, false, Blk.cols mg [Col.int IntKind.i64 tg, Col.int IntKind.i64 vg]),
 (1, false, Blk.cols mn [Col.int IntKind.i64 tn]),
 (0, false,
 Blk.cols mc [Col.str tc, Col.str vc, Col.int IntKind.i64 gc, Col.bool wc])]]) (4)))
 (False))
 (False))
 (test (decide (x0 ≥ (1 : Int)))
 (test (decide (x0 ≤ (8 : Int)))
 (test (decide ((↑ng : Int) > (36 : Int)))
 (Kret (PV.int IntKind.i64 (3 : Int)) ([[(2, false, Blk.cols mg [Col.int IntKind.i64 tg, Col.int IntKind.i64 vg]),
 (1, false, Blk.cols mn [Col.int IntKind.i64 tn]),
 (0, false,
 Blk.cols mc [Col.str tc, Col.str vc, Col.int IntKind.i64 gc, Col.bool wc])]]) (4))
 (Kst (hd Try.f14 2) ([PV.ptr (PA.mk (3) (0) (0) (0)), PV.int IntKind.i64 x0,
 PV.unk, PV.unk, PV.unk, PV.loose (PA.mk (1) (1) an (0)) nn,
 PV.int IntKind.i64 (↑nn : Int), PV.int IntKind.i64 x1,
 PV.loose (PA.mk (2) (2) ag (0)) ng, PV.int IntKind.i64 (↑ng : Int),
 PV.int IntKind.i64 (0 : Int)]) ([[(2, false, Blk.cols mg [Col.int IntKind.i64 tg, Col.int IntKind.i64 vg]),
 (1, false, Blk.cols mn [Col.int IntKind.i64 tn]),
 (0, false,
 Blk.cols mc [Col.str tc, Col.str vc, Col.int IntKind.i64 gc, Col.bool wc]),
 (3, true,
 Blk.cells
 [PV.loose (PA.mk (0) (4) ac (0)) nc,
 PV.loose (PA.mk (1) (1) an (0)) nn,
 PV.loose (PA.mk (2) (2) ag (0)) ng, PV.int IntKind.i64 rc])]]) (4)))
 (Kret (PV.int IntKind.i64 (6 : Int)) ([[(2, false, Blk.cols mg [Col.int IntKind.i64 tg, Col.int IntKind.i64 vg]),
 (1, false, Blk.cols mn [Col.int IntKind.i64 tn]),
 (0, false,
 Blk.cols mc [Col.str tc, Col.str vc, Col.int IntKind.i64 gc, Col.bool wc])]]) (4)))
 (Kret (PV.int IntKind.i64 (6 : Int)) ([[(2, false, Blk.cols mg [Col.int IntKind.i64 tg, Col.int IntKind.i64 vg]),
 (1, false, Blk.cols mn [Col.int IntKind.i64 tn]),
 (0, false,
 Blk.cols mc [Col.str tc, Col.str vc, Col.int IntKind.i64 gc, Col.bool wc])]]) (4)))
set_option maxRecDepth 100000 in
theorem t14_1 (test : Bool → Prop → Prop → Prop) (Kst : KS) (Kret : KR) (ac nc mc : Nat) (tc : Nat → ByteArray) (vc : Nat → ByteArray) (gc : Nat → Int) (wc : Nat → Bool) (an nn mn : Nat) (tn : Nat → Int) (ag ng mg : Nat) (tg : Nat → Int) (vg : Nat → Int) (rc : Int) (x0 : Int) (x1 : Int) : run test Try.env true (xV test) true 400 ⟨14, hd Try.f14 1, zipT [1, 5, 19, 20, 21, 58, 59, 60, 79, 80, 81] [PV.ptr (PA.mk (3) (0) (0) (0)), PV.int IntKind.i64 x0,
 PV.unk, PV.unk, PV.unk, PV.loose (PA.mk (1) (1) an (0)) nn,
 PV.int IntKind.i64 (↑nn : Int), PV.int IntKind.i64 x1, PV.unk, PV.unk, PV.unk], [[(3, (true, Blk.cells
 [PV.loose (PA.mk (0) (4) ac (0)) nc,
 PV.loose (PA.mk (1) (1) an (0)) nn,
 PV.loose (PA.mk (2) (2) ag (0)) ng, PV.int IntKind.i64 rc]))], [(0, (false, .cols mc [.str tc, .str vc, .int .i64 gc, .bool wc])), (1, (false, .cols mn [.int .i64 tn])), (2, (false, .cols mg [.int .i64 tg, .int .i64 vg]))]], 4⟩ (proj 3 [1, 5, 19, 20, 21, 58, 59, 60, 79, 80, 81] Kst Kret) =
  T14_1 test Kst Kret ac nc mc tc vc gc wc an nn mn tn ag ng mg tg vg rc x0 x1 := by kernel_rfl
noncomputable def T14_2 (test : Bool → Prop → Prop → Prop) (Kst : KS) (Kret : KR) (ac nc mc : Nat) (tc : Nat → ByteArray) (vc : Nat → ByteArray) (gc : Nat → Int) (wc : Nat → Bool) (an nn mn : Nat) (tn : Nat → Int) (ag ng mg : Nat) (tg : Nat → Int) (vg : Nat → Int) (rc : Int) (x0 : Int) : Prop :=
  test (decide (x0 < (↑ng : Int)))
 (test (decide ((0 : Int) ≤ x0 ∧ x0 < (↑ng : Int)))
 (test (decide (Int.toNat x0 + ag < mg))
 (test (decide (Int.toNat x0 + ag < mg))
 (test (lim IntKind.i64 ((↑nc : Int) - (1 : Int)))
 (test (decide (tg (Int.toNat x0 + ag) ≥ (0 : Int)))
 (test (decide (tg (Int.toNat x0 + ag) ≤ (↑nc : Int) - (1 : Int)))
 (test (lim IntKind.i64 ((↑nc : Int) - (1 : Int)))
 (test (decide (vg (Int.toNat x0 + ag) ≥ (0 : Int)))
 (test (decide (vg (Int.toNat x0 + ag) ≤ (↑nc : Int) - (1 : Int)))
 (test (decide ((0 : Int) ≤ Option.getD Option.none (0 : Int) ∧ (0 : Int) ≤ x0 ∧ x0 ≤ (↑ng : Int)))
 (test (decide (0 + ag + Int.toNat x0 ≤ mg ∧ Int.toNat x0 ≤ 1000000))
 (test (S.any
 (fun (j : Nat) =>
 decide (tg (j + (0 + ag)) = tg (Int.toNat x0 + ag)) &&
 decide (vg (j + (0 + ag)) = vg (Int.toNat x0 + ag)))
 (Int.toNat x0))
 (Kret (PV.int IntKind.i64 (5 : Int)) ([[(2, false, Blk.cols mg [Col.int IntKind.i64 tg, Col.int IntKind.i64 vg]),
 (1, false, Blk.cols mn [Col.int IntKind.i64 tn]),
 (0, false,
 Blk.cols mc [Col.str tc, Col.str vc, Col.int IntKind.i64 gc, Col.bool wc])]]) (6))
 (test (lim IntKind.i64 (x0 + (1 : Int)))
 (Kst (hd Try.f14 2) ([PV.ptr (PA.mk (3) (0) (0) (0)), PV.unk, PV.unk, PV.unk,
 PV.unk, PV.unk, PV.unk, PV.unk,
 PV.loose (PA.mk (2) (2) ag (0)) ng, PV.int IntKind.i64 (↑ng : Int),
 PV.int IntKind.i64 (x0 + (1 : Int))]) ([[(2, false, Blk.cols mg [Col.int IntKind.i64 tg, Col.int IntKind.i64 vg]),
 (1, false, Blk.cols mn [Col.int IntKind.i64 tn]),
 (0, false,
 Blk.cols mc [Col.str tc, Col.str vc, Col.int IntKind.i64 gc, Col.bool wc]),
 (3, true,
 Blk.cells
 [PV.loose (PA.mk (0) (4) ac (0)) nc,
 PV.loose (PA.mk (1) (1) an (0)) nn,
 PV.loose (PA.mk (2) (2) ag (0)) ng, PV.int IntKind.i64 rc])]]) (6))
 (False)))
 (False))
 (False))
 (Kret (PV.int IntKind.i64 (6 : Int)) ([[(2, false, Blk.cols mg [Col.int IntKind.i64 tg, Col.int IntKind.i64 vg]),
 (1, false, Blk.cols mn [Col.int IntKind.i64 tn]),
 (0, false,
 Blk.cols mc [Col.str tc, Col.str vc, Col.int IntKind.i64 gc, Col.bool wc])]]) (5)))
 (Kret (PV.int IntKind.i64 (6 : Int)) ([[(2, false, Blk.cols mg [Col.int IntKind.i64 tg, Col.int IntKind.i64 vg]),
 (1, false, Blk.cols mn [Col.int IntKind.i64 tn]),
 (0, false,
 Blk.cols mc [Col.str tc, Col.str vc, Col.int IntKind.i64 gc, Col.bool wc])]]) (5)))
 (False))
 (Kret (PV.int IntKind.i64 (6 : Int)) ([[(2, false, Blk.cols mg [Col.int IntKind.i64 tg, Col.int IntKind.i64 vg]),
 (1, false, Blk.cols mn [Col.int IntKind.i64 tn]),
 (0, false,
 Blk.cols mc [Col.str tc, Col.str vc, Col.int IntKind.i64 gc, Col.bool wc])]]) (5)))
 (Kret (PV.int IntKind.i64 (6 : Int)) ([[(2, false, Blk.cols mg [Col.int IntKind.i64 tg, Col.int IntKind.i64 vg]),
 (1, false, Blk.cols mn [Col.int IntKind.i64 tn]),
 (0, false,
 Blk.cols mc [Col.str tc, Col.str vc, Col.int IntKind.i64 gc, Col.bool wc])]]) (5)))
 (False))
 (False))
 (False))
 (False))
 (test (decide (rc ≥ (0 : Int)))
 (test (decide (rc ≤ (1000 : Int)))
 (Kret (PV.int IntKind.i64 (0 : Int)) ([[(2, false, Blk.cols mg [Col.int IntKind.i64 tg, Col.int IntKind.i64 vg]),
 (1, false, Blk.cols mn [Col.int IntKind.i64 tn]),
 (0, false,
 Blk.cols mc [Col.str tc, Col.str vc, Col.int IntKind.i64 gc, Col.bool wc])]]) (4))
 (Kret (PV.int IntKind.i64 (6 : Int)) ([[(2, false, Blk.cols mg [Col.int IntKind.i64 tg, Col.int IntKind.i64 vg]),
 (1, false, Blk.cols mn [Col.int IntKind.i64 tn]),
 (0, false,
 Blk.cols mc [Col.str tc, Col.str vc, Col.int IntKind.i64 gc, Col.bool wc])]]) (4)))
 (Kret (PV.int IntKind.i64 (6 : Int)) ([[(2, false, Blk.cols mg [Col.int IntKind.i64 tg, Col.int IntKind.i64 vg]),
 (1, false, Blk.cols mn [Col.int IntKind.i64 tn]),
 (0, false,
 Blk.cols mc [Col.str tc, Col.str vc, Col.int IntKind.i64 gc, Col.bool wc])]]) (4)))
set_option maxRecDepth 100000 in
theorem t14_2 (test : Bool → Prop → Prop → Prop) (Kst : KS) (Kret : KR) (ac nc mc : Nat) (tc : Nat → ByteArray) (vc : Nat → ByteArray) (gc : Nat → Int) (wc : Nat → Bool) (an nn mn : Nat) (tn : Nat → Int) (ag ng mg : Nat) (tg : Nat → Int) (vg : Nat → Int) (rc : Int) (x0 : Int) : run test Try.env true (xV test) true 400 ⟨14, hd Try.f14 2, zipT [1, 5, 19, 20, 21, 58, 59, 60, 79, 80, 81] [PV.ptr (PA.mk (3) (0) (0) (0)), PV.unk, PV.unk, PV.unk,
 PV.unk, PV.unk, PV.unk, PV.unk,
 PV.loose (PA.mk (2) (2) ag (0)) ng, PV.int IntKind.i64 (↑ng : Int),
 PV.int IntKind.i64 x0], [[(3, (true, Blk.cells
 [PV.loose (PA.mk (0) (4) ac (0)) nc,
 PV.loose (PA.mk (1) (1) an (0)) nn,
 PV.loose (PA.mk (2) (2) ag (0)) ng, PV.int IntKind.i64 rc]))], [(0, (false, .cols mc [.str tc, .str vc, .int .i64 gc, .bool wc])), (1, (false, .cols mn [.int .i64 tn])), (2, (false, .cols mg [.int .i64 tg, .int .i64 vg]))]], 4⟩ (proj 3 [1, 5, 19, 20, 21, 58, 59, 60, 79, 80, 81] Kst Kret) =
  T14_2 test Kst Kret ac nc mc tc vc gc wc an nn mn tn ag ng mg tg vg rc x0 := by kernel_rfl
attribute [local irreducible] Int.subNatNat in
set_option maxRecDepth 100000 in
theorem be14 (ac nc mc : Nat) (tc : Nat → ByteArray) (vc : Nat → ByteArray) (gc : Nat → Int) (wc : Nat → Bool) (an nn mn : Nat) (tn : Nat → Int) (ag ng mg : Nat) (tg : Nat → Int) (vg : Nat → Int) (rc : Int) (Kst : KS) (Kret : KR) (x : St14 ⊕ Rt14) (hS : HS 3 400 ((I14 ac nc mc tc vc gc wc an nn mn tn ag ng mg tg vg rc)) Kst x) (hR : HR 3 400 ((V14 ac nc mc tc vc gc wc an nn mn tn ag ng mg tg vg rc)) (fun r => [newL (3 + 1) ((N14 ac nc mc tc vc gc wc an nn mn tn ag ng mg tg vg rc) r) ++ [(0, (false, .cols mc [.str tc, .str vc, .int .i64 gc, .bool wc])), (1, (false, .cols mn [.int .i64 tn])), (2, (false, .cols mg [.int .i64 tg, .int .i64 vg]))]]) Kret x) (h : (bif ((↑nc : Int) == (0 : Int))
 then (some (.inr ((7 : Int))))
 else (bif (decide ((↑nc : Int) > (6 : Int)))
 then (some (.inr ((3 : Int))))
 else (some (.inl (.h0 ((0 : Int)))))) : Option (St14 ⊕ Rt14)) = some x) : Te14 cond Kst Kret ac nc mc tc vc gc wc an nn mn tn ag ng mg tg vg rc := by
  unfold Te14
  exact bif_split h
   (fun c0 h => ret_at hR _ h (fun n => n) rfl rfl rfl (rn_int rfl) rfl (entl_bor (use_lo rfl) rfl rfl (entl_bor (use_lo rfl) rfl rfl (entl_bor (use_lo rfl) rfl rfl entl_nil))))
   (fun c0 h => bif_split h
   (fun c1 h => ret_at hR _ h (fun n => n) rfl rfl rfl (rn_int rfl) rfl (entl_bor (use_lo rfl) rfl rfl (entl_bor (use_lo rfl) rfl rfl (entl_bor (use_lo rfl) rfl rfl entl_nil))))
   (fun c1 h => stop_at hS _ h (fun n => bif Nat.beq n 3 then 3 else n) rfl rfl rfl ⟨(rn_ptr (use_own rfl) rfl rfl), ⟨(rn_unk _), ⟨(rn_loose (use_lo rfl) rfl rfl rfl), ⟨(rn_int rfl), ⟨(rn_int rfl), ⟨(rn_unk _), ⟨(rn_unk _), ⟨(rn_unk _), ⟨(rn_unk _), ⟨(rn_unk _), ⟨(rn_unk _), trivial⟩⟩⟩⟩⟩⟩⟩⟩⟩⟩⟩ rfl (entl_b (use_own rfl) rfl (by simp) (rb_cells ⟨(rn_loose (use_lo rfl) rfl rfl rfl), (rn_loose (use_lo rfl) rfl rfl rfl), (rn_loose (use_lo rfl) rfl rfl rfl), (rn_int rfl), trivial⟩) (entl_bor (use_lo rfl) rfl rfl (entl_bor (use_lo rfl) rfl rfl (entl_bor (use_lo rfl) rfl rfl entl_nil))))))
attribute [local irreducible] Int.subNatNat in
set_option maxRecDepth 100000 in
theorem b14_0 (ac nc mc : Nat) (tc : Nat → ByteArray) (vc : Nat → ByteArray) (gc : Nat → Int) (wc : Nat → Bool) (an nn mn : Nat) (tn : Nat → Int) (ag ng mg : Nat) (tg : Nat → Int) (vg : Nat → Int) (rc : Int) (Kst : KS) (Kret : KR) (x : St14 ⊕ Rt14) (hS : HS 3 400 ((I14 ac nc mc tc vc gc wc an nn mn tn ag ng mg tg vg rc)) Kst x) (hR : HR 3 400 ((V14 ac nc mc tc vc gc wc an nn mn tn ag ng mg tg vg rc)) (fun r => [newL (3 + 1) ((N14 ac nc mc tc vc gc wc an nn mn tn ag ng mg tg vg rc) r) ++ [(0, (false, .cols mc [.str tc, .str vc, .int .i64 gc, .bool wc])), (1, (false, .cols mn [.int .i64 tn])), (2, (false, .cols mg [.int .i64 tg, .int .i64 vg]))]]) Kret x) (x0 : Int) (h : (bif (decide (x0 < (↑nc : Int)))
 then (bif (decide ((0 : Int) ≤ x0 ∧ x0 < (↑nc : Int)))
 then (bif (decide (Int.toNat x0 + ac < mc))
 then (bif (S.isNam (tc (Int.toNat x0 + ac)))
 then (bif (S.isNam (vc (Int.toNat x0 + ac)))
 then (bif (decide ((0 : Int) ≤ Option.getD Option.none (0 : Int) ∧ (0 : Int) ≤ x0 ∧ x0 ≤ (↑nc : Int)))
 then (bif (decide (0 + ac + Int.toNat x0 ≤ mc ∧ Int.toNat x0 ≤ 1000000))
 then (bif (S.any (fun (j : Nat) => S.eqS (tc (j + (0 + ac))) (tc (Int.toNat x0 + ac))) (Int.toNat x0))
 then (some (.inr ((5 : Int))))
 else (bif (decide (gc (Int.toNat x0 + ac) ≥ (1 : Int)))
 then (bif (decide (gc (Int.toNat x0 + ac) ≤ (200 : Int)))
 then (bif (lim IntKind.i64 (x0 + (1 : Int)))
 then (some (.inl (.h0 (x0 + (1 : Int)))))
 else (none))
 else (some (.inr ((6 : Int)))))
 else (some (.inr ((6 : Int))))))
 else (none))
 else (none))
 else (some (.inr ((2 : Int)))))
 else (some (.inr ((2 : Int)))))
 else (none))
 else (none))
 else (bif ((↑nn : Int) != (↑nc : Int))
 then (some (.inr ((6 : Int))))
 else (some (.inl (.h1 ((0 : Int)) ((0 : Int)))))) : Option (St14 ⊕ Rt14)) = some x) : T14_0 cond Kst Kret ac nc mc tc vc gc wc an nn mn tn ag ng mg tg vg rc x0 := by
  unfold T14_0
  exact bif_split h
   (fun c0 h => bif_split h
   (fun c1 h => bif_split h
   (fun c2 h => cond_yes c2 (cond_yes c2 (cond_yes c2 (cond_yes rfl (bif_split h
   (fun c3 h => cond_yes rfl (bif_split h
   (fun c4 h => bif_split h
   (fun c5 h => bif_split h
   (fun c6 h => bif_split h
   (fun c7 h => ret_at hR _ h (fun n => n) rfl rfl rfl (rn_int rfl) rfl (entl_bor (use_lo rfl) rfl rfl (entl_bor (use_lo rfl) rfl rfl (entl_bor (use_lo rfl) rfl rfl entl_nil))))
   (fun c7 h => bif_split h
   (fun c8 h => bif_split h
   (fun c9 h => bif_split h
   (fun c10 h => stop_at hS _ h (fun n => bif Nat.beq n 3 then 3 else n) rfl rfl rfl ⟨(rn_ptr (use_own rfl) rfl rfl), ⟨(rn_unk _), ⟨(rn_loose (use_lo rfl) rfl rfl rfl), ⟨(rn_int rfl), ⟨(rn_int rfl), ⟨(rn_unk _), ⟨(rn_unk _), ⟨(rn_unk _), ⟨(rn_unk _), ⟨(rn_unk _), ⟨(rn_unk _), trivial⟩⟩⟩⟩⟩⟩⟩⟩⟩⟩⟩ rfl (entl_b (use_own rfl) rfl (by simp) (rb_cells ⟨(rn_loose (use_lo rfl) rfl rfl rfl), (rn_loose (use_lo rfl) rfl rfl rfl), (rn_loose (use_lo rfl) rfl rfl rfl), (rn_int rfl), trivial⟩) (entl_bor (use_lo rfl) rfl rfl (entl_bor (use_lo rfl) rfl rfl (entl_bor (use_lo rfl) rfl rfl entl_nil)))))
   (fun c10 h => no_some h))
   (fun c9 h => ret_at hR _ h (fun n => n) rfl rfl rfl (rn_int rfl) rfl (entl_bor (use_lo rfl) rfl rfl (entl_bor (use_lo rfl) rfl rfl (entl_bor (use_lo rfl) rfl rfl entl_nil)))))
   (fun c8 h => ret_at hR _ h (fun n => n) rfl rfl rfl (rn_int rfl) rfl (entl_bor (use_lo rfl) rfl rfl (entl_bor (use_lo rfl) rfl rfl (entl_bor (use_lo rfl) rfl rfl entl_nil))))))
   (fun c6 h => no_some h))
   (fun c5 h => no_some h))
   (fun c4 h => ret_at hR _ h (fun n => n) rfl rfl rfl (rn_int rfl) rfl (entl_bor (use_lo rfl) rfl rfl (entl_bor (use_lo rfl) rfl rfl (entl_bor (use_lo rfl) rfl rfl entl_nil))))))
   (fun c3 h => ret_at hR _ h (fun n => n) rfl rfl rfl (rn_int rfl) rfl (entl_bor (use_lo rfl) rfl rfl (entl_bor (use_lo rfl) rfl rfl (entl_bor (use_lo rfl) rfl rfl entl_nil)))))))))
   (fun c2 h => no_some h))
   (fun c1 h => no_some h))
   (fun c0 h => bif_split h
   (fun c1 h => ret_at hR _ h (fun n => n) rfl rfl rfl (rn_int rfl) rfl (entl_bor (use_lo rfl) rfl rfl (entl_bor (use_lo rfl) rfl rfl (entl_bor (use_lo rfl) rfl rfl entl_nil))))
   (fun c1 h => stop_at hS _ h (fun n => bif Nat.beq n 3 then 3 else n) rfl rfl rfl ⟨(rn_ptr (use_own rfl) rfl rfl), ⟨(rn_int rfl), ⟨(rn_unk _), ⟨(rn_unk _), ⟨(rn_unk _), ⟨(rn_loose (use_lo rfl) rfl rfl rfl), ⟨(rn_int rfl), ⟨(rn_int rfl), ⟨(rn_unk _), ⟨(rn_unk _), ⟨(rn_unk _), trivial⟩⟩⟩⟩⟩⟩⟩⟩⟩⟩⟩ rfl (entl_b (use_own rfl) rfl (by simp) (rb_cells ⟨(rn_loose (use_lo rfl) rfl rfl rfl), (rn_loose (use_lo rfl) rfl rfl rfl), (rn_loose (use_lo rfl) rfl rfl rfl), (rn_int rfl), trivial⟩) (entl_bor (use_lo rfl) rfl rfl (entl_bor (use_lo rfl) rfl rfl (entl_bor (use_lo rfl) rfl rfl entl_nil))))))
attribute [local irreducible] Int.subNatNat in
set_option maxRecDepth 100000 in
theorem b14_1 (ac nc mc : Nat) (tc : Nat → ByteArray) (vc : Nat → ByteArray) (gc : Nat → Int) (wc : Nat → Bool) (an nn mn : Nat) (tn : Nat → Int) (ag ng mg : Nat) (tg : Nat → Int) (vg : Nat → Int) (rc : Int) (Kst : KS) (Kret : KR) (x : St14 ⊕ Rt14) (hS : HS 3 400 ((I14 ac nc mc tc vc gc wc an nn mn tn ag ng mg tg vg rc)) Kst x) (hR : HR 3 400 ((V14 ac nc mc tc vc gc wc an nn mn tn ag ng mg tg vg rc)) (fun r => [newL (3 + 1) ((N14 ac nc mc tc vc gc wc an nn mn tn ag ng mg tg vg rc) r) ++ [(0, (false, .cols mc [.str tc, .str vc, .int .i64 gc, .bool wc])), (1, (false, .cols mn [.int .i64 tn])), (2, (false, .cols mg [.int .i64 tg, .int .i64 vg]))]]) Kret x) (x0 : Int) (x1 : Int) (h : (bif (decide (x1 < (↑nn : Int)))
 then (bif (decide ((0 : Int) ≤ x1 ∧ x1 < (↑nn : Int)))
 then (bif (decide (Int.toNat x1 + an < mn))
 then (bif (decide (tn (Int.toNat x1 + an) ≥ (0 : Int)))
 then (bif (decide (tn (Int.toNat x1 + an) ≤ (4 : Int)))
 then (bif (lim IntKind.i64 (x0 + tn (Int.toNat x1 + an)))
 then (bif (lim IntKind.i64 (x1 + (1 : Int)))
 then (some (.inl (.h1 (x0 + tn (Int.toNat x1 + an)) (x1 + (1 : Int)))))
 else (none))
 else (none))
 else (some (.inr ((6 : Int)))))
 else (some (.inr ((6 : Int)))))
 else (none))
 else (none))
 else (bif (decide (x0 ≥ (1 : Int)))
 then (bif (decide (x0 ≤ (8 : Int)))
 then (bif (decide ((↑ng : Int) > (36 : Int)))
 then (some (.inr ((3 : Int))))
 else (some (.inl (.h2 ((0 : Int))))))
 else (some (.inr ((6 : Int)))))
 else (some (.inr ((6 : Int))))) : Option (St14 ⊕ Rt14)) = some x) : T14_1 cond Kst Kret ac nc mc tc vc gc wc an nn mn tn ag ng mg tg vg rc x0 x1 := by
  unfold T14_1
  exact bif_split h
   (fun c0 h => bif_split h
   (fun c1 h => bif_split h
   (fun c2 h => bif_split h
   (fun c3 h => bif_split h
   (fun c4 h => bif_split h
   (fun c5 h => bif_split h
   (fun c6 h => stop_at hS _ h (fun n => bif Nat.beq n 3 then 3 else n) rfl rfl rfl ⟨(rn_ptr (use_own rfl) rfl rfl), ⟨(rn_int rfl), ⟨(rn_unk _), ⟨(rn_unk _), ⟨(rn_unk _), ⟨(rn_loose (use_lo rfl) rfl rfl rfl), ⟨(rn_int rfl), ⟨(rn_int rfl), ⟨(rn_unk _), ⟨(rn_unk _), ⟨(rn_unk _), trivial⟩⟩⟩⟩⟩⟩⟩⟩⟩⟩⟩ rfl (entl_b (use_own rfl) rfl (by simp) (rb_cells ⟨(rn_loose (use_lo rfl) rfl rfl rfl), (rn_loose (use_lo rfl) rfl rfl rfl), (rn_loose (use_lo rfl) rfl rfl rfl), (rn_int rfl), trivial⟩) (entl_bor (use_lo rfl) rfl rfl (entl_bor (use_lo rfl) rfl rfl (entl_bor (use_lo rfl) rfl rfl entl_nil)))))
   (fun c6 h => no_some h))
   (fun c5 h => no_some h))
   (fun c4 h => ret_at hR _ h (fun n => n) rfl rfl rfl (rn_int rfl) rfl (entl_bor (use_lo rfl) rfl rfl (entl_bor (use_lo rfl) rfl rfl (entl_bor (use_lo rfl) rfl rfl entl_nil)))))
   (fun c3 h => ret_at hR _ h (fun n => n) rfl rfl rfl (rn_int rfl) rfl (entl_bor (use_lo rfl) rfl rfl (entl_bor (use_lo rfl) rfl rfl (entl_bor (use_lo rfl) rfl rfl entl_nil)))))
   (fun c2 h => no_some h))
   (fun c1 h => no_some h))
   (fun c0 h => bif_split h
   (fun c1 h => bif_split h
   (fun c2 h => bif_split h
   (fun c3 h => ret_at hR _ h (fun n => n) rfl rfl rfl (rn_int rfl) rfl (entl_bor (use_lo rfl) rfl rfl (entl_bor (use_lo rfl) rfl rfl (entl_bor (use_lo rfl) rfl rfl entl_nil))))
   (fun c3 h => stop_at hS _ h (fun n => bif Nat.beq n 3 then 3 else n) rfl rfl rfl ⟨(rn_ptr (use_own rfl) rfl rfl), ⟨(rn_unk _), ⟨(rn_unk _), ⟨(rn_unk _), ⟨(rn_unk _), ⟨(rn_unk _), ⟨(rn_unk _), ⟨(rn_unk _), ⟨(rn_loose (use_lo rfl) rfl rfl rfl), ⟨(rn_int rfl), ⟨(rn_int rfl), trivial⟩⟩⟩⟩⟩⟩⟩⟩⟩⟩⟩ rfl (entl_b (use_own rfl) rfl (by simp) (rb_cells ⟨(rn_loose (use_lo rfl) rfl rfl rfl), (rn_loose (use_lo rfl) rfl rfl rfl), (rn_loose (use_lo rfl) rfl rfl rfl), (rn_int rfl), trivial⟩) (entl_bor (use_lo rfl) rfl rfl (entl_bor (use_lo rfl) rfl rfl (entl_bor (use_lo rfl) rfl rfl entl_nil))))))
   (fun c2 h => ret_at hR _ h (fun n => n) rfl rfl rfl (rn_int rfl) rfl (entl_bor (use_lo rfl) rfl rfl (entl_bor (use_lo rfl) rfl rfl (entl_bor (use_lo rfl) rfl rfl entl_nil)))))
   (fun c1 h => ret_at hR _ h (fun n => n) rfl rfl rfl (rn_int rfl) rfl (entl_bor (use_lo rfl) rfl rfl (entl_bor (use_lo rfl) rfl rfl (entl_bor (use_lo rfl) rfl rfl entl_nil)))))
attribute [local irreducible] Int.subNatNat in
set_option maxRecDepth 100000 in
theorem b14_2 (ac nc mc : Nat) (tc : Nat → ByteArray) (vc : Nat → ByteArray) (gc : Nat → Int) (wc : Nat → Bool) (an nn mn : Nat) (tn : Nat → Int) (ag ng mg : Nat) (tg : Nat → Int) (vg : Nat → Int) (rc : Int) (Kst : KS) (Kret : KR) (x : St14 ⊕ Rt14) (hS : HS 3 400 ((I14 ac nc mc tc vc gc wc an nn mn tn ag ng mg tg vg rc)) Kst x) (hR : HR 3 400 ((V14 ac nc mc tc vc gc wc an nn mn tn ag ng mg tg vg rc)) (fun r => [newL (3 + 1) ((N14 ac nc mc tc vc gc wc an nn mn tn ag ng mg tg vg rc) r) ++ [(0, (false, .cols mc [.str tc, .str vc, .int .i64 gc, .bool wc])), (1, (false, .cols mn [.int .i64 tn])), (2, (false, .cols mg [.int .i64 tg, .int .i64 vg]))]]) Kret x) (x0 : Int) (h : (bif (decide (x0 < (↑ng : Int)))
 then (bif (decide ((0 : Int) ≤ x0 ∧ x0 < (↑ng : Int)))
 then (bif (decide (Int.toNat x0 + ag < mg))
 then (bif (lim IntKind.i64 ((↑nc : Int) - (1 : Int)))
 then (bif (decide (tg (Int.toNat x0 + ag) ≥ (0 : Int)))
 then (bif (decide (tg (Int.toNat x0 + ag) ≤ (↑nc : Int) - (1 : Int)))
 then (bif (decide (vg (Int.toNat x0 + ag) ≥ (0 : Int)))
 then (bif (decide (vg (Int.toNat x0 + ag) ≤ (↑nc : Int) - (1 : Int)))
 then (bif (decide ((0 : Int) ≤ Option.getD Option.none (0 : Int) ∧ (0 : Int) ≤ x0 ∧ x0 ≤ (↑ng : Int)))
 then (bif (decide (0 + ag + Int.toNat x0 ≤ mg ∧ Int.toNat x0 ≤ 1000000))
 then (bif (S.any
 (fun (j : Nat) =>
 decide (tg (j + (0 + ag)) = tg (Int.toNat x0 + ag)) &&
 decide (vg (j + (0 + ag)) = vg (Int.toNat x0 + ag)))
 (Int.toNat x0))
 then (some (.inr ((5 : Int))))
 else (bif (lim IntKind.i64 (x0 + (1 : Int)))
 then (some (.inl (.h2 (x0 + (1 : Int)))))
 else (none)))
 else (none))
 else (none))
 else (some (.inr ((6 : Int)))))
 else (some (.inr ((6 : Int)))))
 else (some (.inr ((6 : Int)))))
 else (some (.inr ((6 : Int)))))
 else (none))
 else (none))
 else (none))
 else (bif (decide (rc ≥ (0 : Int)))
 then (bif (decide (rc ≤ (1000 : Int)))
 then (some (.inr ((0 : Int))))
 else (some (.inr ((6 : Int)))))
 else (some (.inr ((6 : Int))))) : Option (St14 ⊕ Rt14)) = some x) : T14_2 cond Kst Kret ac nc mc tc vc gc wc an nn mn tn ag ng mg tg vg rc x0 := by
  unfold T14_2
  exact bif_split h
   (fun c0 h => bif_split h
   (fun c1 h => bif_split h
   (fun c2 h => cond_yes c2 (bif_split h
   (fun c3 h => bif_split h
   (fun c4 h => bif_split h
   (fun c5 h => cond_yes c3 (bif_split h
   (fun c6 h => bif_split h
   (fun c7 h => bif_split h
   (fun c8 h => bif_split h
   (fun c9 h => bif_split h
   (fun c10 h => ret_at hR _ h (fun n => n) rfl rfl rfl (rn_int rfl) rfl (entl_bor (use_lo rfl) rfl rfl (entl_bor (use_lo rfl) rfl rfl (entl_bor (use_lo rfl) rfl rfl entl_nil))))
   (fun c10 h => bif_split h
   (fun c11 h => stop_at hS _ h (fun n => bif Nat.beq n 3 then 3 else n) rfl rfl rfl ⟨(rn_ptr (use_own rfl) rfl rfl), ⟨(rn_unk _), ⟨(rn_unk _), ⟨(rn_unk _), ⟨(rn_unk _), ⟨(rn_unk _), ⟨(rn_unk _), ⟨(rn_unk _), ⟨(rn_loose (use_lo rfl) rfl rfl rfl), ⟨(rn_int rfl), ⟨(rn_int rfl), trivial⟩⟩⟩⟩⟩⟩⟩⟩⟩⟩⟩ rfl (entl_b (use_own rfl) rfl (by simp) (rb_cells ⟨(rn_loose (use_lo rfl) rfl rfl rfl), (rn_loose (use_lo rfl) rfl rfl rfl), (rn_loose (use_lo rfl) rfl rfl rfl), (rn_int rfl), trivial⟩) (entl_bor (use_lo rfl) rfl rfl (entl_bor (use_lo rfl) rfl rfl (entl_bor (use_lo rfl) rfl rfl entl_nil)))))
   (fun c11 h => no_some h)))
   (fun c9 h => no_some h))
   (fun c8 h => no_some h))
   (fun c7 h => ret_at hR _ h (fun n => n) rfl rfl rfl (rn_int rfl) rfl (entl_bor (use_lo rfl) rfl rfl (entl_bor (use_lo rfl) rfl rfl (entl_bor (use_lo rfl) rfl rfl entl_nil)))))
   (fun c6 h => ret_at hR _ h (fun n => n) rfl rfl rfl (rn_int rfl) rfl (entl_bor (use_lo rfl) rfl rfl (entl_bor (use_lo rfl) rfl rfl (entl_bor (use_lo rfl) rfl rfl entl_nil))))))
   (fun c5 h => ret_at hR _ h (fun n => n) rfl rfl rfl (rn_int rfl) rfl (entl_bor (use_lo rfl) rfl rfl (entl_bor (use_lo rfl) rfl rfl (entl_bor (use_lo rfl) rfl rfl entl_nil)))))
   (fun c4 h => ret_at hR _ h (fun n => n) rfl rfl rfl (rn_int rfl) rfl (entl_bor (use_lo rfl) rfl rfl (entl_bor (use_lo rfl) rfl rfl (entl_bor (use_lo rfl) rfl rfl entl_nil)))))
   (fun c3 h => no_some h)))
   (fun c2 h => no_some h))
   (fun c1 h => no_some h))
   (fun c0 h => bif_split h
   (fun c1 h => bif_split h
   (fun c2 h => ret_at hR _ h (fun n => n) rfl rfl rfl (rn_int rfl) rfl (entl_bor (use_lo rfl) rfl rfl (entl_bor (use_lo rfl) rfl rfl (entl_bor (use_lo rfl) rfl rfl entl_nil))))
   (fun c2 h => ret_at hR _ h (fun n => n) rfl rfl rfl (rn_int rfl) rfl (entl_bor (use_lo rfl) rfl rfl (entl_bor (use_lo rfl) rfl rfl (entl_bor (use_lo rfl) rfl rfl entl_nil)))))
   (fun c1 h => ret_at hR _ h (fun n => n) rfl rfl rfl (rn_int rfl) rfl (entl_bor (use_lo rfl) rfl rfl (entl_bor (use_lo rfl) rfl rfl (entl_bor (use_lo rfl) rfl rfl entl_nil)))))
theorem a14 (ac nc mc : Nat) (tc : Nat → ByteArray) (vc : Nat → ByteArray) (gc : Nat → Int) (wc : Nat → Bool) (an nn mn : Nat) (tn : Nat → Int) (ag ng mg : Nat) (tg : Nat → Int) (vg : Nat → Int) (rc : Int) {r : Rt14} (h : Goes ((q14 ac nc mc tc vc gc wc an nn mn tn ag ng mg tg vg rc)) ((p14 ac nc mc tc vc gc wc an nn mn tn ag ng mg tg vg rc)) r) : CallR Try.prog 14 [.agg [.loose ⟨0, 4, ac, 0⟩ nc, .loose ⟨1, 1, an, 0⟩ nn, .loose ⟨2, 2, ag, 0⟩ ng, .int .i64 rc]] [[(0, (false, .cols mc [.str tc, .str vc, .int .i64 gc, .bool wc])), (1, (false, .cols mn [.int .i64 tn])), (2, (false, .cols mg [.int .i64 tg, .int .i64 vg]))]] 3 ((V14 ac nc mc tc vc gc wc an nn mn tn ag ng mg tg vg rc) r) ((fun r => [newL (3 + 1) ((N14 ac nc mc tc vc gc wc an nn mn tn ag ng mg tg vg rc) r) ++ [(0, (false, .cols mc [.str tc, .str vc, .int .i64 gc, .bool wc])), (1, (false, .cols mn [.int .i64 tn])), (2, (false, .cols mg [.int .i64 tg, .int .i64 vg]))]]) r) 400 ∧ ∃ F, Try.prog.funcs[14]? = some F ∧ F.body.isSome = true ∧ (F.name == "runtime.NumGoroutine") = false := by
  refine dec_calls (f := 14) (lo := 3) (hi := 400) (H := [[(0, (false, .cols mc [.str tc, .str vc, .int .i64 gc, .bool wc])), (1, (false, .cols mn [.int .i64 tn])), (2, (false, .cols mg [.int .i64 tg, .int .i64 vg]))]]) (args := [.agg [.loose ⟨0, 4, ac, 0⟩ nc, .loose ⟨1, 1, an, 0⟩ nn, .loose ⟨2, 2, ag, 0⟩ ng, .int .i64 rc]]) Try.envOk Try.mixed xV_ok ((I14 ac nc mc tc vc gc wc an nn mn tn ag ng mg tg vg rc)) ((V14 ac nc mc tc vc gc wc an nn mn tn ag ng mg tg vg rc)) (fun r => [newL (3 + 1) ((N14 ac nc mc tc vc gc wc an nn mn tn ag ng mg tg vg rc) r) ++ [(0, (false, .cols mc [.str tc, .str vc, .int .i64 gc, .bool wc])), (1, (false, .cols mn [.int .i64 tn])), (2, (false, .cols mg [.int .i64 tg, .int .i64 vg]))]]) (fn := mkFn Try.f14) (ts := [1, 5, 19, 20, 21, 58, 59, 60, 79, 80, 81]) (n := 400) rfl (by decide) (by simp) (names_of rfl) ?_ ?_ ?_ h
  · intro s; cases s <;> exact ⟨hd_ok _ _, by simp [I14], names_of rfl, Nat.le_of_ble_eq_true rfl⟩
  · intro Kst Kret x hS hR h
    exact Holds.eq (te14 cond Kst Kret ac nc mc tc vc gc wc an nn mn tn ag ng mg tg vg rc) (be14 ac nc mc tc vc gc wc an nn mn tn ag ng mg tg vg rc Kst Kret x hS hR h)
  · intro Kst Kret x hS hR s h
    cases s with
    | h0 x0 => exact Holds.eq (t14_0 cond Kst Kret ac nc mc tc vc gc wc an nn mn tn ag ng mg tg vg rc x0) (b14_0 ac nc mc tc vc gc wc an nn mn tn ag ng mg tg vg rc Kst Kret x hS hR x0 h)
    | h1 x0 x1 => exact Holds.eq (t14_1 cond Kst Kret ac nc mc tc vc gc wc an nn mn tn ag ng mg tg vg rc x0 x1) (b14_1 ac nc mc tc vc gc wc an nn mn tn ag ng mg tg vg rc Kst Kret x hS hR x0 x1 h)
    | h2 x0 => exact Holds.eq (t14_2 cond Kst Kret ac nc mc tc vc gc wc an nn mn tn ag ng mg tg vg rc x0) (b14_2 ac nc mc tc vc gc wc an nn mn tn ag ng mg tg vg rc Kst Kret x hS hR x0 h)
noncomputable def k14 : Con := ⟨14, [.agg [.list [.str, .str, .int .i64, .bool], .list [.int .i64], .list [.int .i64, .int .i64], .plain (.int .i64)]], fun (x : ((Nat × Nat × Nat × (Nat → ByteArray) × (Nat → ByteArray) × (Nat → Int) × (Nat → Bool) × Unit) × (Nat × Nat × Nat × (Nat → Int) × Unit) × (Nat × Nat × Nat × (Nat → Int) × (Nat → Int) × Unit) × Int × Unit) × Unit) => (fun (ac nc mc : Nat) (tc : Nat → ByteArray) (vc : Nat → ByteArray) (gc : Nat → Int) (wc : Nat → Bool) (an nn mn : Nat) (tn : Nat → Int) (ag ng mg : Nat) (tg : Nat → Int) (vg : Nat → Int) (rc : Int) => decide (ac + nc ≤ mc ∧ an + nn ≤ mn ∧ ag + ng ≤ mg)) x.1.1.1 x.1.1.2.1 x.1.1.2.2.1 x.1.1.2.2.2.1 x.1.1.2.2.2.2.1 x.1.1.2.2.2.2.2.1 x.1.1.2.2.2.2.2.2.1 x.1.2.1.1 x.1.2.1.2.1 x.1.2.1.2.2.1 x.1.2.1.2.2.2.1 x.1.2.2.1.1 x.1.2.2.1.2.1 x.1.2.2.1.2.2.1 x.1.2.2.1.2.2.2.1 x.1.2.2.1.2.2.2.2.1 x.1.2.2.2.1, fun (x : ((Nat × Nat × Nat × (Nat → ByteArray) × (Nat → ByteArray) × (Nat → Int) × (Nat → Bool) × Unit) × (Nat × Nat × Nat × (Nat → Int) × Unit) × (Nat × Nat × Nat × (Nat → Int) × (Nat → Int) × Unit) × Int × Unit) × Unit) => (fun (ac nc mc : Nat) (tc : Nat → ByteArray) (vc : Nat → ByteArray) (gc : Nat → Int) (wc : Nat → Bool) (an nn mn : Nat) (tn : Nat → Int) (ag ng mg : Nat) (tg : Nat → Int) (vg : Nat → Int) (rc : Int) => (V14 ac nc mc tc vc gc wc an nn mn tn ag ng mg tg vg rc) (S.ttE nc (fun j => tc (j + ac)) (fun j => vc (j + ac)) (fun j => gc (j + ac)) nn (fun j => tn (j + an)) ng (fun j => tg (j + ag)) (fun j => vg (j + ag)) rc)) x.1.1.1 x.1.1.2.1 x.1.1.2.2.1 x.1.1.2.2.2.1 x.1.1.2.2.2.2.1 x.1.1.2.2.2.2.2.1 x.1.1.2.2.2.2.2.2.1 x.1.2.1.1 x.1.2.1.2.1 x.1.2.1.2.2.1 x.1.2.1.2.2.2.1 x.1.2.2.1.1 x.1.2.2.1.2.1 x.1.2.2.1.2.2.1 x.1.2.2.1.2.2.2.1 x.1.2.2.1.2.2.2.2.1 x.1.2.2.2.1, fun (x : ((Nat × Nat × Nat × (Nat → ByteArray) × (Nat → ByteArray) × (Nat → Int) × (Nat → Bool) × Unit) × (Nat × Nat × Nat × (Nat → Int) × Unit) × (Nat × Nat × Nat × (Nat → Int) × (Nat → Int) × Unit) × Int × Unit) × Unit) => (fun (ac nc mc : Nat) (tc : Nat → ByteArray) (vc : Nat → ByteArray) (gc : Nat → Int) (wc : Nat → Bool) (an nn mn : Nat) (tn : Nat → Int) (ag ng mg : Nat) (tg : Nat → Int) (vg : Nat → Int) (rc : Int) => (N14 ac nc mc tc vc gc wc an nn mn tn ag ng mg tg vg rc) (S.ttE nc (fun j => tc (j + ac)) (fun j => vc (j + ac)) (fun j => gc (j + ac)) nn (fun j => tn (j + an)) ng (fun j => tg (j + ag)) (fun j => vg (j + ag)) rc)) x.1.1.1 x.1.1.2.1 x.1.1.2.2.1 x.1.1.2.2.2.1 x.1.1.2.2.2.2.1 x.1.1.2.2.2.2.2.1 x.1.1.2.2.2.2.2.2.1 x.1.2.1.1 x.1.2.1.2.1 x.1.2.1.2.2.1 x.1.2.1.2.2.2.1 x.1.2.2.1.1 x.1.2.2.1.2.1 x.1.2.2.1.2.2.1 x.1.2.2.1.2.2.2.1 x.1.2.2.1.2.2.2.2.1 x.1.2.2.2.1, fun _ _ => .dead⟩
theorem s14c (ac nc mc : Nat) (tc : Nat → ByteArray) (vc : Nat → ByteArray) (gc : Nat → Int) (wc : Nat → Bool) (an nn mn : Nat) (tn : Nat → Int) (ag ng mg : Nat) (tg : Nat → Int) (vg : Nat → Int) (rc : Int) (hp : ac + nc ≤ mc ∧ an + nn ≤ mn ∧ ag + ng ≤ mg) : ∀ k i : Nat, i + k = ng → ng ≤ 36 → nc ≤ 6 → Comes (q14 ac nc mc tc vc gc wc an nn mn tn ag ng mg tg vg rc) (.h2 (i : Int)) (S.nz (S.forE nc (fun j => tg (j + ag)) (fun j => vg (j + ag)) i k) (if 0 ≤ rc ∧ rc ≤ 1000 then 0 else 6)) := by
  obtain ⟨hp1, hp2, hp3⟩ := hp
  intro k
  induction k with
  | zero =>
    intro i hi h1 h3
    have e : S.nz (S.forE nc (fun j => tg (j + ag)) (fun j => vg (j + ag)) i 0) (if 0 ≤ rc ∧ rc ≤ 1000 then 0 else 6) = (if 0 ≤ rc ∧ rc ≤ 1000 then 0 else 6) := if_pos rfl
    rw [e]
    by_cases hr : 0 ≤ rc ∧ rc ≤ 1000
    · rw [if_pos hr]
      apply Comes.of
      show Goes _ _ _
      (first | rw [q14] | unfold q14)
      repeat' first
        | with_reducible refine goes_if (fun h => ?_) (fun h => ?_) <;> (try simp only [lim64, imp_false, decide_eq_true_eq, decide_eq_false_iff_not, Int.toNat_natCast, toNat_pred, toNat_succ, Option.getD_some, Option.getD_none, Bool.not_eq_true', Bool.not_eq_false', Bool.and_eq_true, Bool.or_eq_true, Bool.and_eq_false_iff, Bool.or_eq_false_iff, bne_iff_ne, beq_iff_eq, bne_eq_false_iff_eq, beq_eq_false_iff_ne, ne_eq, not_and, Int.not_le, Int.not_lt, ge_iff_le, gt_iff_lt, Nat.not_lt, Nat.not_le, Bool.not_eq_true, Bool.not_eq_false, Bool.true_eq_false, Bool.false_eq_true, not_false_eq_true, not_true_eq_false] at h)
        | exact goes_none.mpr (by omega)
      all_goals first | (exfalso; omega) | rfl
    · rw [if_neg hr]
      apply Comes.of
      show Goes _ _ _
      (first | rw [q14] | unfold q14)
      repeat' first
        | with_reducible refine goes_if (fun h => ?_) (fun h => ?_) <;> (try simp only [lim64, imp_false, decide_eq_true_eq, decide_eq_false_iff_not, Int.toNat_natCast, toNat_pred, toNat_succ, Option.getD_some, Option.getD_none, Bool.not_eq_true', Bool.not_eq_false', Bool.and_eq_true, Bool.or_eq_true, Bool.and_eq_false_iff, Bool.or_eq_false_iff, bne_iff_ne, beq_iff_eq, bne_eq_false_iff_eq, beq_eq_false_iff_ne, ne_eq, not_and, Int.not_le, Int.not_lt, ge_iff_le, gt_iff_lt, Nat.not_lt, Nat.not_le, Bool.not_eq_true, Bool.not_eq_false, Bool.true_eq_false, Bool.false_eq_true, not_false_eq_true, not_true_eq_false] at h)
        | exact goes_none.mpr (by omega)
      all_goals first | (exfalso; omega) | rfl
  | succ k ih =>
    intro i hi h1 h3
    have ih := ih (i + 1) (by omega) h1 h3
    simp only [S.forE]
    by_cases hr : 0 ≤ tg (i + ag) ∧ tg (i + ag) ≤ (nc : Int) - 1 ∧ 0 ≤ vg (i + ag) ∧ vg (i + ag) ≤ (nc : Int) - 1
    · rw [if_pos hr]
      cases ha : S.any (fun j => decide (tg (j + ag) = tg (i + ag)) && decide (vg (j + ag) = vg (i + ag))) i
      · rw [if_neg Bool.false_ne_true]
        apply Comes.of
        rw [q14]
        simp only [Nat.zero_add, Int.toNat_natCast, ha]
        repeat' first
          | with_reducible refine goes_if (fun h => ?_) (fun h => ?_) <;> (try simp only [lim64, imp_false, decide_eq_true_eq, decide_eq_false_iff_not, Int.toNat_natCast, toNat_pred, toNat_succ, Option.getD_some, Option.getD_none, Bool.not_eq_true', Bool.not_eq_false', Bool.and_eq_true, Bool.or_eq_true, Bool.and_eq_false_iff, Bool.or_eq_false_iff, bne_iff_ne, beq_iff_eq, bne_eq_false_iff_eq, beq_eq_false_iff_ne, ne_eq, not_and, Int.not_le, Int.not_lt, ge_iff_le, gt_iff_lt, Nat.not_lt, Nat.not_le, Bool.not_eq_true, Bool.not_eq_false, Bool.true_eq_false, Bool.false_eq_true, not_false_eq_true, not_true_eq_false] at h)
          | exact goes_none.mpr (by omega)
        all_goals first | (exfalso; omega) | exact ih
      · rw [if_pos rfl]
        apply Comes.of
        rw [q14]
        simp only [Nat.zero_add, Int.toNat_natCast, ha]
        repeat' first
          | with_reducible refine goes_if (fun h => ?_) (fun h => ?_) <;> (try simp only [lim64, imp_false, decide_eq_true_eq, decide_eq_false_iff_not, Int.toNat_natCast, toNat_pred, toNat_succ, Option.getD_some, Option.getD_none, Bool.not_eq_true', Bool.not_eq_false', Bool.and_eq_true, Bool.or_eq_true, Bool.and_eq_false_iff, Bool.or_eq_false_iff, bne_iff_ne, beq_iff_eq, bne_eq_false_iff_eq, beq_eq_false_iff_ne, ne_eq, not_and, Int.not_le, Int.not_lt, ge_iff_le, gt_iff_lt, Nat.not_lt, Nat.not_le, Bool.not_eq_true, Bool.not_eq_false, Bool.true_eq_false, Bool.false_eq_true, not_false_eq_true, not_true_eq_false] at h)
          | exact goes_none.mpr (by omega)
        all_goals first | (exfalso; omega) | rfl
    · rw [if_neg hr]
      apply Comes.of
      rw [q14]
      simp only [Nat.zero_add, Int.toNat_natCast]
      repeat' first
        | with_reducible refine goes_if (fun h => ?_) (fun h => ?_) <;> (try simp only [lim64, imp_false, decide_eq_true_eq, decide_eq_false_iff_not, Int.toNat_natCast, toNat_pred, toNat_succ, Option.getD_some, Option.getD_none, Bool.not_eq_true', Bool.not_eq_false', Bool.and_eq_true, Bool.or_eq_true, Bool.and_eq_false_iff, Bool.or_eq_false_iff, bne_iff_ne, beq_iff_eq, bne_eq_false_iff_eq, beq_eq_false_iff_ne, ne_eq, not_and, Int.not_le, Int.not_lt, ge_iff_le, gt_iff_lt, Nat.not_lt, Nat.not_le, Bool.not_eq_true, Bool.not_eq_false, Bool.true_eq_false, Bool.false_eq_true, not_false_eq_true, not_true_eq_false] at h)
        | exact goes_none.mpr (by omega)
      all_goals first | (exfalso; omega) | rfl
theorem s14b (ac nc mc : Nat) (tc : Nat → ByteArray) (vc : Nat → ByteArray) (gc : Nat → Int) (wc : Nat → Bool) (an nn mn : Nat) (tn : Nat → Int) (ag ng mg : Nat) (tg : Nat → Int) (vg : Nat → Int) (rc : Int) (R : Int) (hR : ng ≤ 36 → Comes (q14 ac nc mc tc vc gc wc an nn mn tn ag ng mg tg vg rc) (.h2 0) R) (hE : 36 < ng → 3 = R) (hp : ac + nc ≤ mc ∧ an + nn ≤ mn ∧ ag + ng ≤ mg) : ∀ (k i : Nat) (x0 : Int), i + k = nn → nn ≤ 6 → 0 ≤ x0 → x0 ≤ 4 * i → Comes (q14 ac nc mc tc vc gc wc an nn mn tn ag ng mg tg vg rc) (.h1 x0 (i : Int)) (S.nz (S.cntE (fun j => tn (j + an)) i k x0) R) := by
  obtain ⟨hp1, hp2, hp3⟩ := hp
  intro k
  induction k with
  | zero =>
    intro i x0 hi h1 h2 h3
    simp only [S.cntE]
    by_cases hr : 1 ≤ x0 ∧ x0 ≤ 8
    · rw [if_pos hr]
      have e : S.nz 0 R = R := if_pos rfl
      rw [e]
      apply Comes.of
      show Goes _ _ _
      (first | rw [q14] | unfold q14)
      repeat' first
        | with_reducible refine goes_if (fun h => ?_) (fun h => ?_) <;> (try simp only [lim64, imp_false, decide_eq_true_eq, decide_eq_false_iff_not, Int.toNat_natCast, toNat_pred, toNat_succ, Option.getD_some, Option.getD_none, Bool.not_eq_true', Bool.not_eq_false', Bool.and_eq_true, Bool.or_eq_true, Bool.and_eq_false_iff, Bool.or_eq_false_iff, bne_iff_ne, beq_iff_eq, bne_eq_false_iff_eq, beq_eq_false_iff_ne, ne_eq, not_and, Int.not_le, Int.not_lt, ge_iff_le, gt_iff_lt, Nat.not_lt, Nat.not_le, Bool.not_eq_true, Bool.not_eq_false, Bool.true_eq_false, Bool.false_eq_true, not_false_eq_true, not_true_eq_false] at h)
        | exact goes_none.mpr (by omega)
      all_goals first | (exfalso; omega) | exact hE (by omega) | exact hR (by omega)
    · rw [if_neg hr]
      apply Comes.of
      show Goes _ _ _
      (first | rw [q14] | unfold q14)
      repeat' first
        | with_reducible refine goes_if (fun h => ?_) (fun h => ?_) <;> (try simp only [lim64, imp_false, decide_eq_true_eq, decide_eq_false_iff_not, Int.toNat_natCast, toNat_pred, toNat_succ, Option.getD_some, Option.getD_none, Bool.not_eq_true', Bool.not_eq_false', Bool.and_eq_true, Bool.or_eq_true, Bool.and_eq_false_iff, Bool.or_eq_false_iff, bne_iff_ne, beq_iff_eq, bne_eq_false_iff_eq, beq_eq_false_iff_ne, ne_eq, not_and, Int.not_le, Int.not_lt, ge_iff_le, gt_iff_lt, Nat.not_lt, Nat.not_le, Bool.not_eq_true, Bool.not_eq_false, Bool.true_eq_false, Bool.false_eq_true, not_false_eq_true, not_true_eq_false] at h)
        | exact goes_none.mpr (by omega)
      all_goals first | (exfalso; omega) | rfl
  | succ k ih =>
    intro i x0 hi h1 h2 h3
    simp only [S.cntE]
    by_cases hr : 0 ≤ tn (i + an) ∧ tn (i + an) ≤ 4
    · rw [if_pos hr]
      have ih := ih (i + 1) (x0 + tn (i + an)) (by omega) h1 (by omega) (by omega)
      apply Comes.of
      show Goes _ _ _
      (first | rw [q14] | unfold q14)
      repeat' first
        | with_reducible refine goes_if (fun h => ?_) (fun h => ?_) <;> (try simp only [lim64, imp_false, decide_eq_true_eq, decide_eq_false_iff_not, Int.toNat_natCast, toNat_pred, toNat_succ, Option.getD_some, Option.getD_none, Bool.not_eq_true', Bool.not_eq_false', Bool.and_eq_true, Bool.or_eq_true, Bool.and_eq_false_iff, Bool.or_eq_false_iff, bne_iff_ne, beq_iff_eq, bne_eq_false_iff_eq, beq_eq_false_iff_ne, ne_eq, not_and, Int.not_le, Int.not_lt, ge_iff_le, gt_iff_lt, Nat.not_lt, Nat.not_le, Bool.not_eq_true, Bool.not_eq_false, Bool.true_eq_false, Bool.false_eq_true, not_false_eq_true, not_true_eq_false] at h)
        | exact goes_none.mpr (by omega)
      all_goals first | (exfalso; omega) | exact ih
    · rw [if_neg hr]
      apply Comes.of
      show Goes _ _ _
      (first | rw [q14] | unfold q14)
      repeat' first
        | with_reducible refine goes_if (fun h => ?_) (fun h => ?_) <;> (try simp only [lim64, imp_false, decide_eq_true_eq, decide_eq_false_iff_not, Int.toNat_natCast, toNat_pred, toNat_succ, Option.getD_some, Option.getD_none, Bool.not_eq_true', Bool.not_eq_false', Bool.and_eq_true, Bool.or_eq_true, Bool.and_eq_false_iff, Bool.or_eq_false_iff, bne_iff_ne, beq_iff_eq, bne_eq_false_iff_eq, beq_eq_false_iff_ne, ne_eq, not_and, Int.not_le, Int.not_lt, ge_iff_le, gt_iff_lt, Nat.not_lt, Nat.not_le, Bool.not_eq_true, Bool.not_eq_false, Bool.true_eq_false, Bool.false_eq_true, not_false_eq_true, not_true_eq_false] at h)
        | exact goes_none.mpr (by omega)
      all_goals first | (exfalso; omega) | rfl
theorem s14a (ac nc mc : Nat) (tc : Nat → ByteArray) (vc : Nat → ByteArray) (gc : Nat → Int) (wc : Nat → Bool) (an nn mn : Nat) (tn : Nat → Int) (ag ng mg : Nat) (tg : Nat → Int) (vg : Nat → Int) (rc : Int) (R : Int) (hR : nn = nc → Comes (q14 ac nc mc tc vc gc wc an nn mn tn ag ng mg tg vg rc) (.h1 0 0) R) (hE : nn ≠ nc → 6 = R) (hp : ac + nc ≤ mc ∧ an + nn ≤ mn ∧ ag + ng ≤ mg) : ∀ (k i : Nat), i + k = nc → nc ≤ 6 → Comes (q14 ac nc mc tc vc gc wc an nn mn tn ag ng mg tg vg rc) (.h0 (i : Int)) (S.nz (S.cycE (fun j => tc (j + ac)) (fun j => vc (j + ac)) (fun j => gc (j + ac)) i k) R) := by
  obtain ⟨hp1, hp2, hp3⟩ := hp
  intro k
  induction k with
  | zero =>
    intro i hi h1
    have e : S.nz (S.cycE (fun j => tc (j + ac)) (fun j => vc (j + ac)) (fun j => gc (j + ac)) i 0) R = R := if_pos rfl
    rw [e]
    by_cases hn : nn = nc
    · have hR := hR hn
      have hd : ((nn : Int) != (nc : Int)) = false := by subst hn; simp
      apply Comes.of
      rw [q14]
      rw [hd]
      repeat' first
        | with_reducible refine goes_if (fun h => ?_) (fun h => ?_) <;> (try simp only [lim64, imp_false, decide_eq_true_eq, decide_eq_false_iff_not, Int.toNat_natCast, toNat_pred, toNat_succ, Option.getD_some, Option.getD_none, Bool.not_eq_true', Bool.not_eq_false', Bool.and_eq_true, Bool.or_eq_true, Bool.and_eq_false_iff, Bool.or_eq_false_iff, bne_iff_ne, beq_iff_eq, bne_eq_false_iff_eq, beq_eq_false_iff_ne, ne_eq, not_and, Int.not_le, Int.not_lt, ge_iff_le, gt_iff_lt, Nat.not_lt, Nat.not_le, Bool.not_eq_true, Bool.not_eq_false, Bool.true_eq_false, Bool.false_eq_true, not_false_eq_true, not_true_eq_false] at h)
        | exact goes_none.mpr (by omega)
      all_goals first | (exfalso; omega) | exact hR
    · have hE := hE hn
      have hd : ((nn : Int) != (nc : Int)) = true := by simp; omega
      apply Comes.of
      rw [q14]
      rw [hd]
      repeat' first
        | with_reducible refine goes_if (fun h => ?_) (fun h => ?_) <;> (try simp only [lim64, imp_false, decide_eq_true_eq, decide_eq_false_iff_not, Int.toNat_natCast, toNat_pred, toNat_succ, Option.getD_some, Option.getD_none, Bool.not_eq_true', Bool.not_eq_false', Bool.and_eq_true, Bool.or_eq_true, Bool.and_eq_false_iff, Bool.or_eq_false_iff, bne_iff_ne, beq_iff_eq, bne_eq_false_iff_eq, beq_eq_false_iff_ne, ne_eq, not_and, Int.not_le, Int.not_lt, ge_iff_le, gt_iff_lt, Nat.not_lt, Nat.not_le, Bool.not_eq_true, Bool.not_eq_false, Bool.true_eq_false, Bool.false_eq_true, not_false_eq_true, not_true_eq_false] at h)
        | exact goes_none.mpr (by omega)
      all_goals first | (exfalso; omega) | exact hE
  | succ k ih =>
    intro i hi h1
    have ih := ih (i + 1) (by omega) h1
    simp only [S.cycE]
    cases h2 : S.isNam (tc (i + ac)) <;> cases h3 : S.isNam (vc (i + ac))
    all_goals first
      | (rw [if_pos ⟨rfl, rfl⟩]
         cases ha : S.any (fun j => S.eqS (tc (j + ac)) (tc (i + ac))) i
         · rw [if_neg Bool.false_ne_true]
           by_cases hr : 1 ≤ gc (i + ac) ∧ gc (i + ac) ≤ 200
           · rw [if_pos hr]
             apply Comes.of
             rw [q14]
             simp only [Nat.zero_add, Int.toNat_natCast, ha, h2, h3]
             repeat' first
               | with_reducible refine goes_if (fun h => ?_) (fun h => ?_) <;> (try simp only [lim64, imp_false, decide_eq_true_eq, decide_eq_false_iff_not, Int.toNat_natCast, toNat_pred, toNat_succ, Option.getD_some, Option.getD_none, Bool.not_eq_true', Bool.not_eq_false', Bool.and_eq_true, Bool.or_eq_true, Bool.and_eq_false_iff, Bool.or_eq_false_iff, bne_iff_ne, beq_iff_eq, bne_eq_false_iff_eq, beq_eq_false_iff_ne, ne_eq, not_and, Int.not_le, Int.not_lt, ge_iff_le, gt_iff_lt, Nat.not_lt, Nat.not_le, Bool.not_eq_true, Bool.not_eq_false, Bool.true_eq_false, Bool.false_eq_true, not_false_eq_true, not_true_eq_false] at h)
               | exact goes_none.mpr (by omega)
             all_goals first | (exfalso; omega) | exact ih
           · rw [if_neg hr]
             apply Comes.of
             rw [q14]
             simp only [Nat.zero_add, Int.toNat_natCast, ha, h2, h3]
             repeat' first
               | with_reducible refine goes_if (fun h => ?_) (fun h => ?_) <;> (try simp only [lim64, imp_false, decide_eq_true_eq, decide_eq_false_iff_not, Int.toNat_natCast, toNat_pred, toNat_succ, Option.getD_some, Option.getD_none, Bool.not_eq_true', Bool.not_eq_false', Bool.and_eq_true, Bool.or_eq_true, Bool.and_eq_false_iff, Bool.or_eq_false_iff, bne_iff_ne, beq_iff_eq, bne_eq_false_iff_eq, beq_eq_false_iff_ne, ne_eq, not_and, Int.not_le, Int.not_lt, ge_iff_le, gt_iff_lt, Nat.not_lt, Nat.not_le, Bool.not_eq_true, Bool.not_eq_false, Bool.true_eq_false, Bool.false_eq_true, not_false_eq_true, not_true_eq_false] at h)
               | exact goes_none.mpr (by omega)
             all_goals first | (exfalso; omega) | rfl
         · rw [if_pos rfl]
           apply Comes.of
           rw [q14]
           simp only [Nat.zero_add, Int.toNat_natCast, ha, h2, h3]
           repeat' first
             | with_reducible refine goes_if (fun h => ?_) (fun h => ?_) <;> (try simp only [lim64, imp_false, decide_eq_true_eq, decide_eq_false_iff_not, Int.toNat_natCast, toNat_pred, toNat_succ, Option.getD_some, Option.getD_none, Bool.not_eq_true', Bool.not_eq_false', Bool.and_eq_true, Bool.or_eq_true, Bool.and_eq_false_iff, Bool.or_eq_false_iff, bne_iff_ne, beq_iff_eq, bne_eq_false_iff_eq, beq_eq_false_iff_ne, ne_eq, not_and, Int.not_le, Int.not_lt, ge_iff_le, gt_iff_lt, Nat.not_lt, Nat.not_le, Bool.not_eq_true, Bool.not_eq_false, Bool.true_eq_false, Bool.false_eq_true, not_false_eq_true, not_true_eq_false] at h)
             | exact goes_none.mpr (by omega)
           all_goals first | (exfalso; omega) | rfl)
      | (rw [if_neg (by simp)]
         apply Comes.of
         rw [q14]
         simp only [Nat.zero_add, Int.toNat_natCast, h2, h3]
         repeat' first
           | with_reducible refine goes_if (fun h => ?_) (fun h => ?_) <;> (try simp only [lim64, imp_false, decide_eq_true_eq, decide_eq_false_iff_not, Int.toNat_natCast, toNat_pred, toNat_succ, Option.getD_some, Option.getD_none, Bool.not_eq_true', Bool.not_eq_false', Bool.and_eq_true, Bool.or_eq_true, Bool.and_eq_false_iff, Bool.or_eq_false_iff, bne_iff_ne, beq_iff_eq, bne_eq_false_iff_eq, beq_eq_false_iff_ne, ne_eq, not_and, Int.not_le, Int.not_lt, ge_iff_le, gt_iff_lt, Nat.not_lt, Nat.not_le, Bool.not_eq_true, Bool.not_eq_false, Bool.true_eq_false, Bool.false_eq_true, not_false_eq_true, not_true_eq_false] at h)
           | exact goes_none.mpr (by omega)
         all_goals first | (exfalso; omega) | rfl)
theorem s14 (ac nc mc : Nat) (tc : Nat → ByteArray) (vc : Nat → ByteArray) (gc : Nat → Int) (wc : Nat → Bool) (an nn mn : Nat) (tn : Nat → Int) (ag ng mg : Nat) (tg : Nat → Int) (vg : Nat → Int) (rc : Int) (hp : ac + nc ≤ mc ∧ an + nn ≤ mn ∧ ag + ng ≤ mg) : Goes ((q14 ac nc mc tc vc gc wc an nn mn tn ag ng mg tg vg rc)) ((p14 ac nc mc tc vc gc wc an nn mn tn ag ng mg tg vg rc)) (S.ttE nc (fun j => tc (j + ac)) (fun j => vc (j + ac)) (fun j => gc (j + ac)) nn (fun j => tn (j + an)) ng (fun j => tg (j + ag)) (fun j => vg (j + ag)) rc) := by
  unfold S.ttE S.cycS
  by_cases h0 : nc = 0
  · rw [if_pos h0]
    have hd : ((nc : Int) == 0) = true := by subst h0; rfl
    unfold p14
    exact goes_ok hd rfl
  · rw [if_neg h0]
    have hd : ((nc : Int) == 0) = false := by simp; omega
    by_cases h1 : 6 < nc
    · rw [if_pos h1]
      unfold p14
      exact goes_no hd (goes_ok (decide_eq_true (by omega)) rfl)
    · rw [if_neg h1]
      unfold p14
      refine goes_no hd ?_
      refine goes_no (decide_eq_false (by omega)) ?_
      refine s14a ac nc mc tc vc gc wc an nn mn tn ag ng mg tg vg rc (if nn = nc then S.nz (S.cntE (fun j => tn (j + an)) 0 nn 0) (if 36 < ng then 3 else S.nz (S.forE nc (fun j => tg (j + ag)) (fun j => vg (j + ag)) 0 ng) (if 0 ≤ rc ∧ rc ≤ 1000 then 0 else 6)) else 6) (fun hn => ?_) (fun hn => by rw [if_neg hn]) hp nc 0 (Nat.zero_add _) (by omega)
      rw [if_pos hn]
      refine s14b ac nc mc tc vc gc wc an nn mn tn ag ng mg tg vg rc (if 36 < ng then 3 else S.nz (S.forE nc (fun j => tg (j + ag)) (fun j => vg (j + ag)) 0 ng) (if 0 ≤ rc ∧ rc ≤ 1000 then 0 else 6)) (fun hg => ?_) (fun hg => by rw [if_pos hg]) hp nn 0 0 (Nat.zero_add _) (by omega) (Int.le_refl _) (by omega)
      rw [if_neg (by omega)]
      exact s14c ac nc mc tc vc gc wc an nn mn tn ag ng mg tg vg rc hp ng 0 (Nat.zero_add _) hg (by omega)

theorem k14_ok : k14.ok Try.prog := by
  intro x hx
  obtain ⟨⟨⟨ac, nc, mc, tc, vc, gc, wc, _⟩, ⟨an, nn, mn, tn, _⟩, ⟨ag, ng, mg, tg, vg, _⟩, rc, _⟩, _⟩ := x
  obtain ⟨h1, h2⟩ := a14 ac nc mc tc vc gc wc an nn mn tn ag ng mg tg vg rc (s14 ac nc mc tc vc gc wc an nn mn tn ag ng mg tg vg rc (of_dec hx rfl))
  exact ⟨⟨400, (by decide : 3 + 1 + 0 ≤ 400), h1⟩, h2⟩

end Go.Ev
