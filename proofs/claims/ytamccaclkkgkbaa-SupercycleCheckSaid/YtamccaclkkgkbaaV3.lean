/-
  The reference's Valid.
-/
import Derived.Test.YtamccaclkkgkbaaV2
namespace Go.Ev
open Go.Proofs
set_option linter.unusedVariables false
set_option linter.unusedSimpArgs false
set_option maxRecDepth 100000
inductive St15 where
  | h0 (x0 : Int) (x1 : Int)
  | h1 (x0 : Int)
  | h2 (x0 : Int) (x1 : Int) (x2 : Int) (x3 : Int) (x4 : Int)
abbrev Rt15 := Int
noncomputable def V15 (ac nc mc : Nat) (tc : Nat → ByteArray) (vc : Nat → ByteArray) (gc : Nat → Int) (wc : Nat → Bool) (an nn mn : Nat) (tn : Nat → Int) (ag ng mg : Nat) (tg : Nat → Int) (vg : Nat → Int) (rc : Int) (r : Rt15) : PV := PV.int IntKind.i64 r
noncomputable def N15 (ac nc mc : Nat) (tc : Nat → ByteArray) (vc : Nat → ByteArray) (gc : Nat → Int) (wc : Nat → Bool) (an nn mn : Nat) (tn : Nat → Int) (ag ng mg : Nat) (tg : Nat → Int) (vg : Nat → Int) (rc : Int) (r : Rt15) : List Blk := []
noncomputable def I15 (ac nc mc : Nat) (tc : Nat → ByteArray) (vc : Nat → ByteArray) (gc : Nat → Int) (wc : Nat → Bool) (an nn mn : Nat) (tn : Nat → Int) (ag ng mg : Nat) (tg : Nat → Int) (vg : Nat → Int) (rc : Int) : St15 → Hd
  | .h0 x0 x1 => ⟨hd Try.f15 0, [PV.ptr (PA.mk (3) (0) (0) (0)), PV.int IntKind.i64 (↑nc : Int),
 PV.int IntKind.i64 x0, PV.int IntKind.i64 x1, PV.unk, PV.unk, PV.unk,
 PV.unk, PV.unk, PV.unk, PV.unk, PV.unk, PV.unk], [[(3, (true, Blk.cells
 [PV.loose (PA.mk (0) (4) ac (0)) nc,
 PV.loose (PA.mk (1) (1) an (0)) nn,
 PV.loose (PA.mk (2) (2) ag (0)) ng, PV.int IntKind.i64 rc]))], [(0, (false, .cols mc [.str tc, .str vc, .int .i64 gc, .bool wc])), (1, (false, .cols mn [.int .i64 tn])), (2, (false, .cols mg [.int .i64 tg, .int .i64 vg]))]], 4⟩
  | .h1 x0 => ⟨hd Try.f15 1, [PV.ptr (PA.mk (3) (0) (0) (0)), PV.int IntKind.i64 (↑nc : Int),
 PV.unk, PV.unk, PV.int IntKind.i64 x0, PV.unk, PV.unk, PV.unk, PV.unk,
 PV.unk, PV.unk, PV.unk, PV.unk], [[(3, (true, Blk.cells
 [PV.loose (PA.mk (0) (4) ac (0)) nc,
 PV.loose (PA.mk (1) (1) an (0)) nn,
 PV.loose (PA.mk (2) (2) ag (0)) ng, PV.int IntKind.i64 rc]))], [(0, (false, .cols mc [.str tc, .str vc, .int .i64 gc, .bool wc])), (1, (false, .cols mn [.int .i64 tn])), (2, (false, .cols mg [.int .i64 tg, .int .i64 vg]))]], 4⟩
  | .h2 x0 x1 x2 x3 x4 => ⟨hd Try.f15 2, [PV.ptr (PA.mk (3) (0) (0) (0)), PV.int IntKind.i64 (↑nc : Int),
 PV.unk, PV.unk, PV.int IntKind.i64 x0,
 PV.ptr (PA.mk (4) (0) (0) (0)), PV.int IntKind.i64 x1,
 PV.ptr (PA.mk (4) (0) (0) (1)), PV.int IntKind.i64 x2,
 PV.int IntKind.i64 (↑nc : Int), PV.int IntKind.i64 ((↑nc : Int) - (1 : Int)), PV.tf true,
 PV.tf false], [[(3, (true, Blk.cells
 [PV.loose (PA.mk (0) (4) ac (0)) nc,
 PV.loose (PA.mk (1) (1) an (0)) nn,
 PV.loose (PA.mk (2) (2) ag (0)) ng, PV.int IntKind.i64 rc])), (4, (true, Blk.cells [PV.int IntKind.i64 x3, PV.int IntKind.i64 x4]))], [(0, (false, .cols mc [.str tc, .str vc, .int .i64 gc, .bool wc])), (1, (false, .cols mn [.int .i64 tn])), (2, (false, .cols mg [.int .i64 tg, .int .i64 vg]))]], 5⟩
noncomputable def q15 (ac nc mc : Nat) (tc : Nat → ByteArray) (vc : Nat → ByteArray) (gc : Nat → Int) (wc : Nat → Bool) (an nn mn : Nat) (tn : Nat → Int) (ag ng mg : Nat) (tg : Nat → Int) (vg : Nat → Int) (rc : Int) : St15 → Option (St15 ⊕ Rt15)
  | .h0 x0 x1 => bif (decide (x1 < (↑nc : Int)))
 then (bif (decide ((0 : Int) ≤ x1 ∧ x1 < (↑nn : Int)))
 then (bif (decide (Int.toNat x1 + an < mn))
 then (bif (decide (tn (Int.toNat x1 + an) ≥ (0 : Int)))
 then (bif (decide (tn (Int.toNat x1 + an) ≤ (4 : Int)))
 then (bif (lim IntKind.i64 (x0 + tn (Int.toNat x1 + an)))
 then (bif (lim IntKind.i64 (x1 + (1 : Int)))
 then (some (.inl (.h0 (x0 + tn (Int.toNat x1 + an)) (x1 + (1 : Int)))))
 else (none))
 else (none))
 else (some (.inr ((6 : Int)))))
 else (some (.inr ((6 : Int)))))
 else (none))
 else (none))
 else (bif (decide (x0 ≥ (1 : Int)))
 then (bif (decide (x0 ≤ (8 : Int)))
 then (bif (decide ((↑ng : Int) > (36 : Int)))
 then (some (.inr ((3 : Int))))
 else (some (.inl (.h1 ((0 : Int))))))
 else (some (.inr ((6 : Int)))))
 else (some (.inr ((6 : Int)))))
  | .h1 x0 => bif (decide (x0 < (↑ng : Int)))
 then (bif (decide ((0 : Int) ≤ x0 ∧ x0 < (↑ng : Int)))
 then (bif (decide (Int.toNat x0 + ag < mg))
 then (bif (lim IntKind.i64 ((↑nc : Int) - (1 : Int)))
 then (bif (decide (tg (Int.toNat x0 + ag) ≥ (0 : Int)))
 then (bif (decide (tg (Int.toNat x0 + ag) ≤ (↑nc : Int) - (1 : Int)))
 then (bif (decide (vg (Int.toNat x0 + ag) ≥ (0 : Int)))
 then (bif (decide (vg (Int.toNat x0 + ag) ≤ (↑nc : Int) - (1 : Int)))
 then (some (.inl (.h2 (x0) ((0 : Int)) (vg (Int.toNat x0 + ag)) (tg (Int.toNat x0 + ag)) (vg (Int.toNat x0 + ag)))))
 else (some (.inr ((6 : Int)))))
 else (some (.inr ((6 : Int)))))
 else (some (.inr ((6 : Int)))))
 else (some (.inr ((6 : Int)))))
 else (none))
 else (none))
 else (none))
 else (bif (decide (rc ≥ (0 : Int)))
 then (bif (decide (rc ≤ (1000 : Int)))
 then (some (.inr ((0 : Int))))
 else (some (.inr ((6 : Int)))))
 else (some (.inr ((6 : Int)))))
  | .h2 x0 x1 x2 x3 x4 => bif (decide (x1 < x0))
 then (bif (decide ((0 : Int) ≤ x1 ∧ x1 < (↑ng : Int)))
 then (bif (decide (Int.toNat x1 + ag < mg))
 then (bif (tg (Int.toNat x1 + ag) == x3 && (vg (Int.toNat x1 + ag) == x4 && true))
 then (some (.inr ((5 : Int))))
 else (bif (lim IntKind.i64 (x1 + (1 : Int)))
 then (some (.inl (.h2 (x0) (x1 + (1 : Int)) (x2) (x3) (x4))))
 else (none)))
 else (none))
 else (none))
 else (bif (lim IntKind.i64 (x0 + (1 : Int)))
 then (some (.inl (.h1 (x0 + (1 : Int)))))
 else (none))
noncomputable def p15 (ac nc mc : Nat) (tc : Nat → ByteArray) (vc : Nat → ByteArray) (gc : Nat → Int) (wc : Nat → Bool) (an nn mn : Nat) (tn : Nat → Int) (ag ng mg : Nat) (tg : Nat → Int) (vg : Nat → Int) (rc : Int) : Option (St15 ⊕ Rt15) := bif (decide (ac + nc ≤ mc))
 then (bif ((S.cycS nc (fun (j : Nat) => tc (j + ac)) (fun (j : Nat) => vc (j + ac)) fun (j : Nat) => gc (j + ac)) !=
 (0 : Int))
 then (some (.inr (S.cycS nc (fun (j : Nat) => tc (j + ac)) (fun (j : Nat) => vc (j + ac)) fun (j : Nat) => gc (j + ac))))
 else (bif ((↑nn : Int) != (↑nc : Int))
 then (some (.inr ((6 : Int))))
 else (some (.inl (.h0 ((0 : Int)) ((0 : Int)))))))
 else (none)
noncomputable def Te15 (test : Bool → Prop → Prop → Prop) (Kst : KS) (Kret : KR) (ac nc mc : Nat) (tc : Nat → ByteArray) (vc : Nat → ByteArray) (gc : Nat → Int) (wc : Nat → Bool) (an nn mn : Nat) (tn : Nat → Int) (ag ng mg : Nat) (tg : Nat → Int) (vg : Nat → Int) (rc : Int) : Prop :=
  test (decide (ac + nc ≤ mc))
 (test ((S.cycS nc (fun (j : Nat) => tc (j + ac)) (fun (j : Nat) => vc (j + ac)) fun (j : Nat) => gc (j + ac)) !=
 (0 : Int))
 (Kret (PV.int IntKind.i64
 (S.cycS nc (fun (j : Nat) => tc (j + ac)) (fun (j : Nat) => vc (j + ac)) fun (j : Nat) => gc (j + ac))) ([[(2, false, Blk.cols mg [Col.int IntKind.i64 tg, Col.int IntKind.i64 vg]),
 (1, false, Blk.cols mn [Col.int IntKind.i64 tn]),
 (0, false,
 Blk.cols mc [Col.str tc, Col.str vc, Col.int IntKind.i64 gc, Col.bool wc])]]) (5))
 (test ((↑nn : Int) != (↑nc : Int))
 (Kret (PV.int IntKind.i64 (6 : Int)) ([[(2, false, Blk.cols mg [Col.int IntKind.i64 tg, Col.int IntKind.i64 vg]),
 (1, false, Blk.cols mn [Col.int IntKind.i64 tn]),
 (0, false,
 Blk.cols mc [Col.str tc, Col.str vc, Col.int IntKind.i64 gc, Col.bool wc])]]) (5))
 (Kst (hd Try.f15 0) ([PV.ptr (PA.mk (3) (0) (0) (0)), PV.int IntKind.i64 (↑nc : Int),
 PV.int IntKind.i64 (0 : Int), PV.int IntKind.i64 (0 : Int), PV.unk, PV.unk,
 PV.unk, PV.unk, PV.unk, PV.unk, PV.unk, PV.unk, PV.unk]) ([[(2, false, Blk.cols mg [Col.int IntKind.i64 tg, Col.int IntKind.i64 vg]),
 (1, false, Blk.cols mn [Col.int IntKind.i64 tn]),
 (0, false,
 Blk.cols mc [Col.str tc, Col.str vc, Col.int IntKind.i64 gc, Col.bool wc]),
 (3, true,
 Blk.cells
 [PV.loose (PA.mk (0) (4) ac (0)) nc,
 PV.loose (PA.mk (1) (1) an (0)) nn,
 PV.loose (PA.mk (2) (2) ag (0)) ng, PV.int IntKind.i64 rc])]]) (5))))
 (False)
set_option maxRecDepth 100000 in
theorem te15 (test : Bool → Prop → Prop → Prop) (Kst : KS) (Kret : KR) (ac nc mc : Nat) (tc : Nat → ByteArray) (vc : Nat → ByteArray) (gc : Nat → Int) (wc : Nat → Bool) (an nn mn : Nat) (tn : Nat → Int) (ag ng mg : Nat) (tg : Nat → Int) (vg : Nat → Int) (rc : Int) : run test Try.env true (xC test) true 400 ⟨15, [.cd (mkFn Try.f15).body], argT 0 [.agg [.loose ⟨0, 4, ac, 0⟩ nc, .loose ⟨1, 1, an, 0⟩ nn, .loose ⟨2, 2, ag, 0⟩ ng, .int .i64 rc]], [[], [(0, (false, .cols mc [.str tc, .str vc, .int .i64 gc, .bool wc])), (1, (false, .cols mn [.int .i64 tn])), (2, (false, .cols mg [.int .i64 tg, .int .i64 vg]))]], 3⟩ (proj 3 [1, 4, 5, 6, 7, 8, 9, 69, 70, 71, 72, 73, 74] Kst Kret) =
  Te15 test Kst Kret ac nc mc tc vc gc wc an nn mn tn ag ng mg tg vg rc := by kernel_rfl
noncomputable def T15_0 (test : Bool → Prop → Prop → Prop) (Kst : KS) (Kret : KR) (ac nc mc : Nat) (tc : Nat → ByteArray) (vc : Nat → ByteArray) (gc : Nat → Int) (wc : Nat → Bool) (an nn mn : Nat) (tn : Nat → Int) (ag ng mg : Nat) (tg : Nat → Int) (vg : Nat → Int) (rc : Int) (x0 : Int) (x1 : Int) : Prop :=
  test (decide (x1 < (↑nc : Int)))
 (test (decide ((0 : Int) ≤ x1 ∧ x1 < (↑nn : Int)))
 (test (decide (Int.toNat x1 + an < mn))
 (test (decide (tn (Int.toNat x1 + an) ≥ (0 : Int)))
 (test (decide (tn (Int.toNat x1 + an) ≤ (4 : Int)))
 (test (decide ((0 : Int) ≤ x1 ∧ x1 < (↑nn : Int)))
 (test (decide (Int.toNat x1 + an < mn))
 (test (lim IntKind.i64 (x0 + tn (Int.toNat x1 + an)))
 (test (lim IntKind.i64 (x1 + (1 : Int)))
 (Kst (hd Try.f15 0) ([PV.ptr (PA.mk (3) (0) (0) (0)), PV.int IntKind.i64 (↑nc : Int),
 PV.int IntKind.i64 (x0 + tn (Int.toNat x1 + an)), PV.int IntKind.i64 (x1 + (1 : Int)), PV.unk,
 PV.unk, PV.unk, PV.unk, PV.unk, PV.unk, PV.unk, PV.unk, PV.unk]) ([[(2, false, Blk.cols mg [Col.int IntKind.i64 tg, Col.int IntKind.i64 vg]),
 (1, false, Blk.cols mn [Col.int IntKind.i64 tn]),
 (0, false,
 Blk.cols mc [Col.str tc, Col.str vc, Col.int IntKind.i64 gc, Col.bool wc]),
 (3, true,
 Blk.cells
 [PV.loose (PA.mk (0) (4) ac (0)) nc,
 PV.loose (PA.mk (1) (1) an (0)) nn,
 PV.loose (PA.mk (2) (2) ag (0)) ng, PV.int IntKind.i64 rc])]]) (4))
 (False))
 (False))
 (False))
 (False))
 (Kret (PV.int IntKind.i64 (6 : Int)) ([[(2, false, Blk.cols mg [Col.int IntKind.i64 tg, Col.int IntKind.i64 vg]),
 (1, false, Blk.cols mn [Col.int IntKind.i64 tn]),
 (0, false,
 Blk.cols mc [Col.str tc, Col.str vc, Col.int IntKind.i64 gc, Col.bool wc])]]) (4)))
 (Kret (PV.int IntKind.i64 (6 : Int)) ([[(2, false, Blk.cols mg [Col.int IntKind.i64 tg, Col.int IntKind.i64 vg]),
 (1, false, Blk.cols mn [Col.int IntKind.i64 tn]),
 (0, false,
 Blk.cols mc [Col.str tc, Col.str vc, Col.int IntKind.i64 gc, Col.bool wc])]]) (4)))
 (False))
 (False))
 (test (decide (x0 ≥ (1 : Int)))
 (test (decide (x0 ≤ (8 : Int)))
 (test (decide ((↑ng : Int) > (36 : Int)))
 (Kret (PV.int IntKind.i64 (3 : Int)) ([[(2, false, Blk.cols mg [Col.int IntKind.i64 tg, Col.int IntKind.i64 vg]),
 (1, false, Blk.cols mn [Col.int IntKind.i64 tn]),
 (0, false,
 Blk.cols mc [Col.str tc, Col.str vc, Col.int IntKind.i64 gc, Col.bool wc])]]) (4))
 (Kst (hd Try.f15 1) ([PV.ptr (PA.mk (3) (0) (0) (0)), PV.int IntKind.i64 (↑nc : Int),
 PV.int IntKind.i64 x0, PV.int IntKind.i64 x1, PV.int IntKind.i64 (0 : Int), PV.unk,
 PV.unk, PV.unk, PV.unk, PV.unk, PV.unk, PV.unk, PV.unk]) ([[(2, false, Blk.cols mg [Col.int IntKind.i64 tg, Col.int IntKind.i64 vg]),
 (1, false, Blk.cols mn [Col.int IntKind.i64 tn]),
 (0, false,
 Blk.cols mc [Col.str tc, Col.str vc, Col.int IntKind.i64 gc, Col.bool wc]),
 (3, true,
 Blk.cells
 [PV.loose (PA.mk (0) (4) ac (0)) nc,
 PV.loose (PA.mk (1) (1) an (0)) nn,
 PV.loose (PA.mk (2) (2) ag (0)) ng, PV.int IntKind.i64 rc])]]) (4)))
 (Kret (PV.int IntKind.i64 (6 : Int)) ([[(2, false, Blk.cols mg [Col.int IntKind.i64 tg, Col.int IntKind.i64 vg]),
 (1, false, Blk.cols mn [Col.int IntKind.i64 tn]),
 (0, false,
 Blk.cols mc [Col.str tc, Col.str vc, Col.int IntKind.i64 gc, Col.bool wc])]]) (4)))
 (Kret (PV.int IntKind.i64 (6 : Int)) ([[(2, false, Blk.cols mg [Col.int IntKind.i64 tg, Col.int IntKind.i64 vg]),
 (1, false, Blk.cols mn [Col.int IntKind.i64 tn]),
 (0, false,
 Blk.cols mc [Col.str tc, Col.str vc, Col.int IntKind.i64 gc, Col.bool wc])]]) (4)))
set_option maxRecDepth 100000 in
theorem t15_0 (test : Bool → Prop → Prop → Prop) (Kst : KS) (Kret : KR) (ac nc mc : Nat) (tc : Nat → ByteArray) (vc : Nat → ByteArray) (gc : Nat → Int) (wc : Nat → Bool) (an nn mn : Nat) (tn : Nat → Int) (ag ng mg : Nat) (tg : Nat → Int) (vg : Nat → Int) (rc : Int) (x0 : Int) (x1 : Int) : run test Try.env true (xC test) true 400 ⟨15, hd Try.f15 0, zipT [1, 4, 5, 6, 7, 8, 9, 69, 70, 71, 72, 73, 74] [PV.ptr (PA.mk (3) (0) (0) (0)), PV.int IntKind.i64 (↑nc : Int),
 PV.int IntKind.i64 x0, PV.int IntKind.i64 x1, PV.unk, PV.unk, PV.unk,
 PV.unk, PV.unk, PV.unk, PV.unk, PV.unk, PV.unk], [[(3, (true, Blk.cells
 [PV.loose (PA.mk (0) (4) ac (0)) nc,
 PV.loose (PA.mk (1) (1) an (0)) nn,
 PV.loose (PA.mk (2) (2) ag (0)) ng, PV.int IntKind.i64 rc]))], [(0, (false, .cols mc [.str tc, .str vc, .int .i64 gc, .bool wc])), (1, (false, .cols mn [.int .i64 tn])), (2, (false, .cols mg [.int .i64 tg, .int .i64 vg]))]], 4⟩ (proj 3 [1, 4, 5, 6, 7, 8, 9, 69, 70, 71, 72, 73, 74] Kst Kret) =
  T15_0 test Kst Kret ac nc mc tc vc gc wc an nn mn tn ag ng mg tg vg rc x0 x1 := by kernel_rfl
noncomputable def T15_1 (test : Bool → Prop → Prop → Prop) (Kst : KS) (Kret : KR) (ac nc mc : Nat) (tc : Nat → ByteArray) (vc : Nat → ByteArray) (gc : Nat → Int) (wc : Nat → Bool) (an nn mn : Nat) (tn : Nat → Int) (ag ng mg : Nat) (tg : Nat → Int) (vg : Nat → Int) (rc : Int) (x0 : Int) : Prop :=
  test (decide (x0 < (↑ng : Int)))
 (test (decide ((0 : Int) ≤ x0 ∧ x0 < (↑ng : Int)))
 (test (decide (Int.toNat x0 + ag < mg))
 (test (decide (Int.toNat x0 + ag < mg))
 (test (lim IntKind.i64 ((↑nc : Int) - (1 : Int)))
 (test (decide (tg (Int.toNat x0 + ag) ≥ (0 : Int)))
 (test (decide (tg (Int.toNat x0 + ag) ≤ (↑nc : Int) - (1 : Int)))
 (test (lim IntKind.i64 ((↑nc : Int) - (1 : Int)))
 (test (decide (vg (Int.toNat x0 + ag) ≥ (0 : Int)))
 (test (decide (vg (Int.toNat x0 + ag) ≤ (↑nc : Int) - (1 : Int)))
 (Kst (hd Try.f15 2) ([PV.ptr (PA.mk (3) (0) (0) (0)), PV.int IntKind.i64 (↑nc : Int),
 PV.unk, PV.unk, PV.int IntKind.i64 x0,
 PV.ptr (PA.mk (4) (0) (0) (0)), PV.int IntKind.i64 (0 : Int),
 PV.ptr (PA.mk (4) (0) (0) (1)),
 PV.int IntKind.i64 (vg (Int.toNat x0 + ag)), PV.int IntKind.i64 (↑nc : Int),
 PV.int IntKind.i64 ((↑nc : Int) - (1 : Int)), PV.tf true, PV.tf false]) ([[(2, false, Blk.cols mg [Col.int IntKind.i64 tg, Col.int IntKind.i64 vg]),
 (1, false, Blk.cols mn [Col.int IntKind.i64 tn]),
 (0, false,
 Blk.cols mc [Col.str tc, Col.str vc, Col.int IntKind.i64 gc, Col.bool wc]),
 (4, true,
 Blk.cells
 [PV.int IntKind.i64 (tg (Int.toNat x0 + ag)), PV.int IntKind.i64 (vg (Int.toNat x0 + ag))]),
 (3, true,
 Blk.cells
 [PV.loose (PA.mk (0) (4) ac (0)) nc,
 PV.loose (PA.mk (1) (1) an (0)) nn,
 PV.loose (PA.mk (2) (2) ag (0)) ng, PV.int IntKind.i64 rc])]]) (5))
 (Kret (PV.int IntKind.i64 (6 : Int)) ([[(2, false, Blk.cols mg [Col.int IntKind.i64 tg, Col.int IntKind.i64 vg]),
 (1, false, Blk.cols mn [Col.int IntKind.i64 tn]),
 (0, false,
 Blk.cols mc [Col.str tc, Col.str vc, Col.int IntKind.i64 gc, Col.bool wc])]]) (5)))
 (Kret (PV.int IntKind.i64 (6 : Int)) ([[(2, false, Blk.cols mg [Col.int IntKind.i64 tg, Col.int IntKind.i64 vg]),
 (1, false, Blk.cols mn [Col.int IntKind.i64 tn]),
 (0, false,
 Blk.cols mc [Col.str tc, Col.str vc, Col.int IntKind.i64 gc, Col.bool wc])]]) (5)))
 (False))
 (Kret (PV.int IntKind.i64 (6 : Int)) ([[(2, false, Blk.cols mg [Col.int IntKind.i64 tg, Col.int IntKind.i64 vg]),
 (1, false, Blk.cols mn [Col.int IntKind.i64 tn]),
 (0, false,
 Blk.cols mc [Col.str tc, Col.str vc, Col.int IntKind.i64 gc, Col.bool wc])]]) (5)))
 (Kret (PV.int IntKind.i64 (6 : Int)) ([[(2, false, Blk.cols mg [Col.int IntKind.i64 tg, Col.int IntKind.i64 vg]),
 (1, false, Blk.cols mn [Col.int IntKind.i64 tn]),
 (0, false,
 Blk.cols mc [Col.str tc, Col.str vc, Col.int IntKind.i64 gc, Col.bool wc])]]) (5)))
 (False))
 (False))
 (False))
 (False))
 (test (decide (rc ≥ (0 : Int)))
 (test (decide (rc ≤ (1000 : Int)))
 (Kret (PV.int IntKind.i64 (0 : Int)) ([[(2, false, Blk.cols mg [Col.int IntKind.i64 tg, Col.int IntKind.i64 vg]),
 (1, false, Blk.cols mn [Col.int IntKind.i64 tn]),
 (0, false,
 Blk.cols mc [Col.str tc, Col.str vc, Col.int IntKind.i64 gc, Col.bool wc])]]) (4))
 (Kret (PV.int IntKind.i64 (6 : Int)) ([[(2, false, Blk.cols mg [Col.int IntKind.i64 tg, Col.int IntKind.i64 vg]),
 (1, false, Blk.cols mn [Col.int IntKind.i64 tn]),
 (0, false,
 Blk.cols mc [Col.str tc, Col.str vc, Col.int IntKind.i64 gc, Col.bool wc])]]) (4)))
 (Kret (PV.int IntKind.i64 (6 : Int)) ([[(2, false, Blk.cols mg [Col.int IntKind.i64 tg, Col.int IntKind.i64 vg]),
 (1, false, Blk.cols mn [Col.int IntKind.i64 tn]),
 (0, false,
 Blk.cols mc [Col.str tc, Col.str vc, Col.int IntKind.i64 gc, Col.bool wc])]]) (4)))
set_option maxRecDepth 100000 in
theorem t15_1 (test : Bool → Prop → Prop → Prop) (Kst : KS) (Kret : KR) (ac nc mc : Nat) (tc : Nat → ByteArray) (vc : Nat → ByteArray) (gc : Nat → Int) (wc : Nat → Bool) (an nn mn : Nat) (tn : Nat → Int) (ag ng mg : Nat) (tg : Nat → Int) (vg : Nat → Int) (rc : Int) (x0 : Int) : run test Try.env true (xC test) true 400 ⟨15, hd Try.f15 1, zipT [1, 4, 5, 6, 7, 8, 9, 69, 70, 71, 72, 73, 74] [PV.ptr (PA.mk (3) (0) (0) (0)), PV.int IntKind.i64 (↑nc : Int),
 PV.unk, PV.unk, PV.int IntKind.i64 x0, PV.unk, PV.unk, PV.unk, PV.unk,
 PV.unk, PV.unk, PV.unk, PV.unk], [[(3, (true, Blk.cells
 [PV.loose (PA.mk (0) (4) ac (0)) nc,
 PV.loose (PA.mk (1) (1) an (0)) nn,
 PV.loose (PA.mk (2) (2) ag (0)) ng, PV.int IntKind.i64 rc]))], [(0, (false, .cols mc [.str tc, .str vc, .int .i64 gc, .bool wc])), (1, (false, .cols mn [.int .i64 tn])), (2, (false, .cols mg [.int .i64 tg, .int .i64 vg]))]], 4⟩ (proj 3 [1, 4, 5, 6, 7, 8, 9, 69, 70, 71, 72, 73, 74] Kst Kret) =
  T15_1 test Kst Kret ac nc mc tc vc gc wc an nn mn tn ag ng mg tg vg rc x0 := by kernel_rfl
noncomputable def T15_2 (test : Bool → Prop → Prop → Prop) (Kst : KS) (Kret : KR) (ac nc mc : Nat) (tc : Nat → ByteArray) (vc : Nat → ByteArray) (gc : Nat → Int) (wc : Nat → Bool) (an nn mn : Nat) (tn : Nat → Int) (ag ng mg : Nat) (tg : Nat → Int) (vg : Nat → Int) (rc : Int) (x0 : Int) (x1 : Int) (x2 : Int) (x3 : Int) (x4 : Int) : Prop :=
  test (decide (x1 < x0))
 (test (decide ((0 : Int) ≤ x1 ∧ x1 < (↑ng : Int)))
 (test (decide (Int.toNat x1 + ag < mg))
 (test (decide (Int.toNat x1 + ag < mg))
 (test (tg (Int.toNat x1 + ag) == x3 && (vg (Int.toNat x1 + ag) == x4 && true))
 (Kret (PV.int IntKind.i64 (5 : Int)) ([[(2, false, Blk.cols mg [Col.int IntKind.i64 tg, Col.int IntKind.i64 vg]),
 (1, false, Blk.cols mn [Col.int IntKind.i64 tn]),
 (0, false,
 Blk.cols mc [Col.str tc, Col.str vc, Col.int IntKind.i64 gc, Col.bool wc])]]) (5))
 (test (lim IntKind.i64 (x1 + (1 : Int)))
 (Kst (hd Try.f15 2) ([PV.ptr (PA.mk (3) (0) (0) (0)), PV.int IntKind.i64 (↑nc : Int),
 PV.unk, PV.unk, PV.int IntKind.i64 x0,
 PV.ptr (PA.mk (4) (0) (0) (0)),
 PV.int IntKind.i64 (x1 + (1 : Int)),
 PV.ptr (PA.mk (4) (0) (0) (1)), PV.int IntKind.i64 x2,
 PV.int IntKind.i64 (↑nc : Int), PV.int IntKind.i64 ((↑nc : Int) - (1 : Int)), PV.tf true,
 PV.tf false]) ([[(2, false, Blk.cols mg [Col.int IntKind.i64 tg, Col.int IntKind.i64 vg]),
 (1, false, Blk.cols mn [Col.int IntKind.i64 tn]),
 (0, false,
 Blk.cols mc [Col.str tc, Col.str vc, Col.int IntKind.i64 gc, Col.bool wc]),
 (4, true, Blk.cells [PV.int IntKind.i64 x3, PV.int IntKind.i64 x4]),
 (3, true,
 Blk.cells
 [PV.loose (PA.mk (0) (4) ac (0)) nc,
 PV.loose (PA.mk (1) (1) an (0)) nn,
 PV.loose (PA.mk (2) (2) ag (0)) ng, PV.int IntKind.i64 rc])]]) (5))
 (False)))
 (False))
 (False))
 (False))
 (test (lim IntKind.i64 (x0 + (1 : Int)))
 (Kst (hd Try.f15 1) ([PV.ptr (PA.mk (3) (0) (0) (0)), PV.int IntKind.i64 (↑nc : Int),
 PV.unk, PV.unk, PV.int IntKind.i64 (x0 + (1 : Int)),
 PV.ptr (PA.mk (4) (0) (0) (0)), PV.int IntKind.i64 x1,
 PV.ptr (PA.mk (4) (0) (0) (1)), PV.int IntKind.i64 x2,
 PV.int IntKind.i64 (↑nc : Int), PV.int IntKind.i64 ((↑nc : Int) - (1 : Int)), PV.tf true,
 PV.tf false]) ([[(2, false, Blk.cols mg [Col.int IntKind.i64 tg, Col.int IntKind.i64 vg]),
 (1, false, Blk.cols mn [Col.int IntKind.i64 tn]),
 (0, false,
 Blk.cols mc [Col.str tc, Col.str vc, Col.int IntKind.i64 gc, Col.bool wc]),
 (4, true, Blk.cells [PV.int IntKind.i64 x3, PV.int IntKind.i64 x4]),
 (3, true,
 Blk.cells
 [PV.loose (PA.mk (0) (4) ac (0)) nc,
 PV.loose (PA.mk (1) (1) an (0)) nn,
 PV.loose (PA.mk (2) (2) ag (0)) ng, PV.int IntKind.i64 rc])]]) (5))
 (False))
set_option maxRecDepth 100000 in
theorem t15_2 (test : Bool → Prop → Prop → Prop) (Kst : KS) (Kret : KR) (ac nc mc : Nat) (tc : Nat → ByteArray) (vc : Nat → ByteArray) (gc : Nat → Int) (wc : Nat → Bool) (an nn mn : Nat) (tn : Nat → Int) (ag ng mg : Nat) (tg : Nat → Int) (vg : Nat → Int) (rc : Int) (x0 : Int) (x1 : Int) (x2 : Int) (x3 : Int) (x4 : Int) : run test Try.env true (xC test) true 400 ⟨15, hd Try.f15 2, zipT [1, 4, 5, 6, 7, 8, 9, 69, 70, 71, 72, 73, 74] [PV.ptr (PA.mk (3) (0) (0) (0)), PV.int IntKind.i64 (↑nc : Int),
 PV.unk, PV.unk, PV.int IntKind.i64 x0,
 PV.ptr (PA.mk (4) (0) (0) (0)), PV.int IntKind.i64 x1,
 PV.ptr (PA.mk (4) (0) (0) (1)), PV.int IntKind.i64 x2,
 PV.int IntKind.i64 (↑nc : Int), PV.int IntKind.i64 ((↑nc : Int) - (1 : Int)), PV.tf true,
 PV.tf false], [[(3, (true, Blk.cells
 [PV.loose (PA.mk (0) (4) ac (0)) nc,
 PV.loose (PA.mk (1) (1) an (0)) nn,
 PV.loose (PA.mk (2) (2) ag (0)) ng, PV.int IntKind.i64 rc])), (4, (true, Blk.cells [PV.int IntKind.i64 x3, PV.int IntKind.i64 x4]))], [(0, (false, .cols mc [.str tc, .str vc, .int .i64 gc, .bool wc])), (1, (false, .cols mn [.int .i64 tn])), (2, (false, .cols mg [.int .i64 tg, .int .i64 vg]))]], 5⟩ (proj 3 [1, 4, 5, 6, 7, 8, 9, 69, 70, 71, 72, 73, 74] Kst Kret) =
  T15_2 test Kst Kret ac nc mc tc vc gc wc an nn mn tn ag ng mg tg vg rc x0 x1 x2 x3 x4 := by kernel_rfl
attribute [local irreducible] Int.subNatNat in
set_option maxRecDepth 100000 in
theorem be15 (ac nc mc : Nat) (tc : Nat → ByteArray) (vc : Nat → ByteArray) (gc : Nat → Int) (wc : Nat → Bool) (an nn mn : Nat) (tn : Nat → Int) (ag ng mg : Nat) (tg : Nat → Int) (vg : Nat → Int) (rc : Int) (Kst : KS) (Kret : KR) (x : St15 ⊕ Rt15) (hS : HS 3 400 ((I15 ac nc mc tc vc gc wc an nn mn tn ag ng mg tg vg rc)) Kst x) (hR : HR 3 400 ((V15 ac nc mc tc vc gc wc an nn mn tn ag ng mg tg vg rc)) (fun r => [newL (3 + 1) ((N15 ac nc mc tc vc gc wc an nn mn tn ag ng mg tg vg rc) r) ++ [(0, (false, .cols mc [.str tc, .str vc, .int .i64 gc, .bool wc])), (1, (false, .cols mn [.int .i64 tn])), (2, (false, .cols mg [.int .i64 tg, .int .i64 vg]))]]) Kret x) (h : (bif (decide (ac + nc ≤ mc))
 then (bif ((S.cycS nc (fun (j : Nat) => tc (j + ac)) (fun (j : Nat) => vc (j + ac)) fun (j : Nat) => gc (j + ac)) !=
 (0 : Int))
 then (some (.inr (S.cycS nc (fun (j : Nat) => tc (j + ac)) (fun (j : Nat) => vc (j + ac)) fun (j : Nat) => gc (j + ac))))
 else (bif ((↑nn : Int) != (↑nc : Int))
 then (some (.inr ((6 : Int))))
 else (some (.inl (.h0 ((0 : Int)) ((0 : Int)))))))
 else (none) : Option (St15 ⊕ Rt15)) = some x) : Te15 cond Kst Kret ac nc mc tc vc gc wc an nn mn tn ag ng mg tg vg rc := by
  unfold Te15
  exact bif_split h
   (fun c0 h => bif_split h
   (fun c1 h => ret_at hR _ h (fun n => n) rfl rfl rfl (rn_int rfl) rfl (entl_bor (use_lo rfl) rfl rfl (entl_bor (use_lo rfl) rfl rfl (entl_bor (use_lo rfl) rfl rfl entl_nil))))
   (fun c1 h => bif_split h
   (fun c2 h => ret_at hR _ h (fun n => n) rfl rfl rfl (rn_int rfl) rfl (entl_bor (use_lo rfl) rfl rfl (entl_bor (use_lo rfl) rfl rfl (entl_bor (use_lo rfl) rfl rfl entl_nil))))
   (fun c2 h => stop_at hS _ h (fun n => bif Nat.beq n 3 then 3 else n) rfl rfl rfl ⟨(rn_ptr (use_own rfl) rfl rfl), ⟨(rn_int rfl), ⟨(rn_int rfl), ⟨(rn_int rfl), ⟨(rn_unk _), ⟨(rn_unk _), ⟨(rn_unk _), ⟨(rn_unk _), ⟨(rn_unk _), ⟨(rn_unk _), ⟨(rn_unk _), ⟨(rn_unk _), ⟨(rn_unk _), trivial⟩⟩⟩⟩⟩⟩⟩⟩⟩⟩⟩⟩⟩ rfl (entl_b (use_own rfl) rfl (by simp) (rb_cells ⟨(rn_loose (use_lo rfl) rfl rfl rfl), (rn_loose (use_lo rfl) rfl rfl rfl), (rn_loose (use_lo rfl) rfl rfl rfl), (rn_int rfl), trivial⟩) (entl_bor (use_lo rfl) rfl rfl (entl_bor (use_lo rfl) rfl rfl (entl_bor (use_lo rfl) rfl rfl entl_nil)))))))
   (fun c0 h => no_some h)
attribute [local irreducible] Int.subNatNat in
set_option maxRecDepth 100000 in
theorem b15_0 (ac nc mc : Nat) (tc : Nat → ByteArray) (vc : Nat → ByteArray) (gc : Nat → Int) (wc : Nat → Bool) (an nn mn : Nat) (tn : Nat → Int) (ag ng mg : Nat) (tg : Nat → Int) (vg : Nat → Int) (rc : Int) (Kst : KS) (Kret : KR) (x : St15 ⊕ Rt15) (hS : HS 3 400 ((I15 ac nc mc tc vc gc wc an nn mn tn ag ng mg tg vg rc)) Kst x) (hR : HR 3 400 ((V15 ac nc mc tc vc gc wc an nn mn tn ag ng mg tg vg rc)) (fun r => [newL (3 + 1) ((N15 ac nc mc tc vc gc wc an nn mn tn ag ng mg tg vg rc) r) ++ [(0, (false, .cols mc [.str tc, .str vc, .int .i64 gc, .bool wc])), (1, (false, .cols mn [.int .i64 tn])), (2, (false, .cols mg [.int .i64 tg, .int .i64 vg]))]]) Kret x) (x0 : Int) (x1 : Int) (h : (bif (decide (x1 < (↑nc : Int)))
 then (bif (decide ((0 : Int) ≤ x1 ∧ x1 < (↑nn : Int)))
 then (bif (decide (Int.toNat x1 + an < mn))
 then (bif (decide (tn (Int.toNat x1 + an) ≥ (0 : Int)))
 then (bif (decide (tn (Int.toNat x1 + an) ≤ (4 : Int)))
 then (bif (lim IntKind.i64 (x0 + tn (Int.toNat x1 + an)))
 then (bif (lim IntKind.i64 (x1 + (1 : Int)))
 then (some (.inl (.h0 (x0 + tn (Int.toNat x1 + an)) (x1 + (1 : Int)))))
 else (none))
 else (none))
 else (some (.inr ((6 : Int)))))
 else (some (.inr ((6 : Int)))))
 else (none))
 else (none))
 else (bif (decide (x0 ≥ (1 : Int)))
 then (bif (decide (x0 ≤ (8 : Int)))
 then (bif (decide ((↑ng : Int) > (36 : Int)))
 then (some (.inr ((3 : Int))))
 else (some (.inl (.h1 ((0 : Int))))))
 else (some (.inr ((6 : Int)))))
 else (some (.inr ((6 : Int))))) : Option (St15 ⊕ Rt15)) = some x) : T15_0 cond Kst Kret ac nc mc tc vc gc wc an nn mn tn ag ng mg tg vg rc x0 x1 := by
  unfold T15_0
  exact bif_split h
   (fun c0 h => bif_split h
   (fun c1 h => bif_split h
   (fun c2 h => bif_split h
   (fun c3 h => bif_split h
   (fun c4 h => cond_yes c1 (cond_yes c2 (bif_split h
   (fun c5 h => bif_split h
   (fun c6 h => stop_at hS _ h (fun n => bif Nat.beq n 3 then 3 else n) rfl rfl rfl ⟨(rn_ptr (use_own rfl) rfl rfl), ⟨(rn_int rfl), ⟨(rn_int rfl), ⟨(rn_int rfl), ⟨(rn_unk _), ⟨(rn_unk _), ⟨(rn_unk _), ⟨(rn_unk _), ⟨(rn_unk _), ⟨(rn_unk _), ⟨(rn_unk _), ⟨(rn_unk _), ⟨(rn_unk _), trivial⟩⟩⟩⟩⟩⟩⟩⟩⟩⟩⟩⟩⟩ rfl (entl_b (use_own rfl) rfl (by simp) (rb_cells ⟨(rn_loose (use_lo rfl) rfl rfl rfl), (rn_loose (use_lo rfl) rfl rfl rfl), (rn_loose (use_lo rfl) rfl rfl rfl), (rn_int rfl), trivial⟩) (entl_bor (use_lo rfl) rfl rfl (entl_bor (use_lo rfl) rfl rfl (entl_bor (use_lo rfl) rfl rfl entl_nil)))))
   (fun c6 h => no_some h))
   (fun c5 h => no_some h))))
   (fun c4 h => ret_at hR _ h (fun n => n) rfl rfl rfl (rn_int rfl) rfl (entl_bor (use_lo rfl) rfl rfl (entl_bor (use_lo rfl) rfl rfl (entl_bor (use_lo rfl) rfl rfl entl_nil)))))
   (fun c3 h => ret_at hR _ h (fun n => n) rfl rfl rfl (rn_int rfl) rfl (entl_bor (use_lo rfl) rfl rfl (entl_bor (use_lo rfl) rfl rfl (entl_bor (use_lo rfl) rfl rfl entl_nil)))))
   (fun c2 h => no_some h))
   (fun c1 h => no_some h))
   (fun c0 h => bif_split h
   (fun c1 h => bif_split h
   (fun c2 h => bif_split h
   (fun c3 h => ret_at hR _ h (fun n => n) rfl rfl rfl (rn_int rfl) rfl (entl_bor (use_lo rfl) rfl rfl (entl_bor (use_lo rfl) rfl rfl (entl_bor (use_lo rfl) rfl rfl entl_nil))))
   (fun c3 h => stop_at hS _ h (fun n => bif Nat.beq n 3 then 3 else n) rfl rfl rfl ⟨(rn_ptr (use_own rfl) rfl rfl), ⟨(rn_int rfl), ⟨(rn_unk _), ⟨(rn_unk _), ⟨(rn_int rfl), ⟨(rn_unk _), ⟨(rn_unk _), ⟨(rn_unk _), ⟨(rn_unk _), ⟨(rn_unk _), ⟨(rn_unk _), ⟨(rn_unk _), ⟨(rn_unk _), trivial⟩⟩⟩⟩⟩⟩⟩⟩⟩⟩⟩⟩⟩ rfl (entl_b (use_own rfl) rfl (by simp) (rb_cells ⟨(rn_loose (use_lo rfl) rfl rfl rfl), (rn_loose (use_lo rfl) rfl rfl rfl), (rn_loose (use_lo rfl) rfl rfl rfl), (rn_int rfl), trivial⟩) (entl_bor (use_lo rfl) rfl rfl (entl_bor (use_lo rfl) rfl rfl (entl_bor (use_lo rfl) rfl rfl entl_nil))))))
   (fun c2 h => ret_at hR _ h (fun n => n) rfl rfl rfl (rn_int rfl) rfl (entl_bor (use_lo rfl) rfl rfl (entl_bor (use_lo rfl) rfl rfl (entl_bor (use_lo rfl) rfl rfl entl_nil)))))
   (fun c1 h => ret_at hR _ h (fun n => n) rfl rfl rfl (rn_int rfl) rfl (entl_bor (use_lo rfl) rfl rfl (entl_bor (use_lo rfl) rfl rfl (entl_bor (use_lo rfl) rfl rfl entl_nil)))))
attribute [local irreducible] Int.subNatNat in
set_option maxRecDepth 100000 in
theorem b15_1 (ac nc mc : Nat) (tc : Nat → ByteArray) (vc : Nat → ByteArray) (gc : Nat → Int) (wc : Nat → Bool) (an nn mn : Nat) (tn : Nat → Int) (ag ng mg : Nat) (tg : Nat → Int) (vg : Nat → Int) (rc : Int) (Kst : KS) (Kret : KR) (x : St15 ⊕ Rt15) (hS : HS 3 400 ((I15 ac nc mc tc vc gc wc an nn mn tn ag ng mg tg vg rc)) Kst x) (hR : HR 3 400 ((V15 ac nc mc tc vc gc wc an nn mn tn ag ng mg tg vg rc)) (fun r => [newL (3 + 1) ((N15 ac nc mc tc vc gc wc an nn mn tn ag ng mg tg vg rc) r) ++ [(0, (false, .cols mc [.str tc, .str vc, .int .i64 gc, .bool wc])), (1, (false, .cols mn [.int .i64 tn])), (2, (false, .cols mg [.int .i64 tg, .int .i64 vg]))]]) Kret x) (x0 : Int) (h : (bif (decide (x0 < (↑ng : Int)))
 then (bif (decide ((0 : Int) ≤ x0 ∧ x0 < (↑ng : Int)))
 then (bif (decide (Int.toNat x0 + ag < mg))
 then (bif (lim IntKind.i64 ((↑nc : Int) - (1 : Int)))
 then (bif (decide (tg (Int.toNat x0 + ag) ≥ (0 : Int)))
 then (bif (decide (tg (Int.toNat x0 + ag) ≤ (↑nc : Int) - (1 : Int)))
 then (bif (decide (vg (Int.toNat x0 + ag) ≥ (0 : Int)))
 then (bif (decide (vg (Int.toNat x0 + ag) ≤ (↑nc : Int) - (1 : Int)))
 then (some (.inl (.h2 (x0) ((0 : Int)) (vg (Int.toNat x0 + ag)) (tg (Int.toNat x0 + ag)) (vg (Int.toNat x0 + ag)))))
 else (some (.inr ((6 : Int)))))
 else (some (.inr ((6 : Int)))))
 else (some (.inr ((6 : Int)))))
 else (some (.inr ((6 : Int)))))
 else (none))
 else (none))
 else (none))
 else (bif (decide (rc ≥ (0 : Int)))
 then (bif (decide (rc ≤ (1000 : Int)))
 then (some (.inr ((0 : Int))))
 else (some (.inr ((6 : Int)))))
 else (some (.inr ((6 : Int))))) : Option (St15 ⊕ Rt15)) = some x) : T15_1 cond Kst Kret ac nc mc tc vc gc wc an nn mn tn ag ng mg tg vg rc x0 := by
  unfold T15_1
  exact bif_split h
   (fun c0 h => bif_split h
   (fun c1 h => bif_split h
   (fun c2 h => cond_yes c2 (bif_split h
   (fun c3 h => bif_split h
   (fun c4 h => bif_split h
   (fun c5 h => cond_yes c3 (bif_split h
   (fun c6 h => bif_split h
   (fun c7 h => stop_at hS _ h (fun n => bif Nat.beq n 3 then 3 else bif Nat.beq n 4 then 4 else n) rfl rfl rfl ⟨(rn_ptr (use_own rfl) rfl rfl), ⟨(rn_int rfl), ⟨(rn_unk _), ⟨(rn_unk _), ⟨(rn_int rfl), ⟨(rn_ptr (use_own rfl) rfl rfl), ⟨(rn_int rfl), ⟨(rn_ptr (use_own rfl) rfl rfl), ⟨(rn_int rfl), ⟨(rn_int rfl), ⟨(rn_int rfl), ⟨(rn_tf rfl), ⟨(rn_tf rfl), trivial⟩⟩⟩⟩⟩⟩⟩⟩⟩⟩⟩⟩⟩ rfl (entl_b (use_own rfl) rfl (by simp) (rb_cells ⟨(rn_loose (use_lo rfl) rfl rfl rfl), (rn_loose (use_lo rfl) rfl rfl rfl), (rn_loose (use_lo rfl) rfl rfl rfl), (rn_int rfl), trivial⟩) (entl_b (use_own rfl) rfl (by simp) (rb_cells ⟨(rn_int rfl), (rn_int rfl), trivial⟩) (entl_bor (use_lo rfl) rfl rfl (entl_bor (use_lo rfl) rfl rfl (entl_bor (use_lo rfl) rfl rfl entl_nil))))))
   (fun c7 h => ret_at hR _ h (fun n => n) rfl rfl rfl (rn_int rfl) rfl (entl_bor (use_lo rfl) rfl rfl (entl_bor (use_lo rfl) rfl rfl (entl_bor (use_lo rfl) rfl rfl entl_nil)))))
   (fun c6 h => ret_at hR _ h (fun n => n) rfl rfl rfl (rn_int rfl) rfl (entl_bor (use_lo rfl) rfl rfl (entl_bor (use_lo rfl) rfl rfl (entl_bor (use_lo rfl) rfl rfl entl_nil))))))
   (fun c5 h => ret_at hR _ h (fun n => n) rfl rfl rfl (rn_int rfl) rfl (entl_bor (use_lo rfl) rfl rfl (entl_bor (use_lo rfl) rfl rfl (entl_bor (use_lo rfl) rfl rfl entl_nil)))))
   (fun c4 h => ret_at hR _ h (fun n => n) rfl rfl rfl (rn_int rfl) rfl (entl_bor (use_lo rfl) rfl rfl (entl_bor (use_lo rfl) rfl rfl (entl_bor (use_lo rfl) rfl rfl entl_nil)))))
   (fun c3 h => no_some h)))
   (fun c2 h => no_some h))
   (fun c1 h => no_some h))
   (fun c0 h => bif_split h
   (fun c1 h => bif_split h
   (fun c2 h => ret_at hR _ h (fun n => n) rfl rfl rfl (rn_int rfl) rfl (entl_bor (use_lo rfl) rfl rfl (entl_bor (use_lo rfl) rfl rfl (entl_bor (use_lo rfl) rfl rfl entl_nil))))
   (fun c2 h => ret_at hR _ h (fun n => n) rfl rfl rfl (rn_int rfl) rfl (entl_bor (use_lo rfl) rfl rfl (entl_bor (use_lo rfl) rfl rfl (entl_bor (use_lo rfl) rfl rfl entl_nil)))))
   (fun c1 h => ret_at hR _ h (fun n => n) rfl rfl rfl (rn_int rfl) rfl (entl_bor (use_lo rfl) rfl rfl (entl_bor (use_lo rfl) rfl rfl (entl_bor (use_lo rfl) rfl rfl entl_nil)))))
attribute [local irreducible] Int.subNatNat in
set_option maxRecDepth 100000 in
theorem b15_2 (ac nc mc : Nat) (tc : Nat → ByteArray) (vc : Nat → ByteArray) (gc : Nat → Int) (wc : Nat → Bool) (an nn mn : Nat) (tn : Nat → Int) (ag ng mg : Nat) (tg : Nat → Int) (vg : Nat → Int) (rc : Int) (Kst : KS) (Kret : KR) (x : St15 ⊕ Rt15) (hS : HS 3 400 ((I15 ac nc mc tc vc gc wc an nn mn tn ag ng mg tg vg rc)) Kst x) (hR : HR 3 400 ((V15 ac nc mc tc vc gc wc an nn mn tn ag ng mg tg vg rc)) (fun r => [newL (3 + 1) ((N15 ac nc mc tc vc gc wc an nn mn tn ag ng mg tg vg rc) r) ++ [(0, (false, .cols mc [.str tc, .str vc, .int .i64 gc, .bool wc])), (1, (false, .cols mn [.int .i64 tn])), (2, (false, .cols mg [.int .i64 tg, .int .i64 vg]))]]) Kret x) (x0 : Int) (x1 : Int) (x2 : Int) (x3 : Int) (x4 : Int) (h : (bif (decide (x1 < x0))
 then (bif (decide ((0 : Int) ≤ x1 ∧ x1 < (↑ng : Int)))
 then (bif (decide (Int.toNat x1 + ag < mg))
 then (bif (tg (Int.toNat x1 + ag) == x3 && (vg (Int.toNat x1 + ag) == x4 && true))
 then (some (.inr ((5 : Int))))
 else (bif (lim IntKind.i64 (x1 + (1 : Int)))
 then (some (.inl (.h2 (x0) (x1 + (1 : Int)) (x2) (x3) (x4))))
 else (none)))
 else (none))
 else (none))
 else (bif (lim IntKind.i64 (x0 + (1 : Int)))
 then (some (.inl (.h1 (x0 + (1 : Int)))))
 else (none)) : Option (St15 ⊕ Rt15)) = some x) : T15_2 cond Kst Kret ac nc mc tc vc gc wc an nn mn tn ag ng mg tg vg rc x0 x1 x2 x3 x4 := by
  unfold T15_2
  exact bif_split h
   (fun c0 h => bif_split h
   (fun c1 h => bif_split h
   (fun c2 h => cond_yes c2 (bif_split h
   (fun c3 h => ret_at hR _ h (fun n => n) rfl rfl rfl (rn_int rfl) rfl (entl_bor (use_lo rfl) rfl rfl (entl_bor (use_lo rfl) rfl rfl (entl_bor (use_lo rfl) rfl rfl entl_nil))))
   (fun c3 h => bif_split h
   (fun c4 h => stop_at hS _ h (fun n => bif Nat.beq n 3 then 3 else bif Nat.beq n 4 then 4 else n) rfl rfl rfl ⟨(rn_ptr (use_own rfl) rfl rfl), ⟨(rn_int rfl), ⟨(rn_unk _), ⟨(rn_unk _), ⟨(rn_int rfl), ⟨(rn_ptr (use_own rfl) rfl rfl), ⟨(rn_int rfl), ⟨(rn_ptr (use_own rfl) rfl rfl), ⟨(rn_int rfl), ⟨(rn_int rfl), ⟨(rn_int rfl), ⟨(rn_tf rfl), ⟨(rn_tf rfl), trivial⟩⟩⟩⟩⟩⟩⟩⟩⟩⟩⟩⟩⟩ rfl (entl_b (use_own rfl) rfl (by simp) (rb_cells ⟨(rn_loose (use_lo rfl) rfl rfl rfl), (rn_loose (use_lo rfl) rfl rfl rfl), (rn_loose (use_lo rfl) rfl rfl rfl), (rn_int rfl), trivial⟩) (entl_b (use_own rfl) rfl (by simp) (rb_cells ⟨(rn_int rfl), (rn_int rfl), trivial⟩) (entl_bor (use_lo rfl) rfl rfl (entl_bor (use_lo rfl) rfl rfl (entl_bor (use_lo rfl) rfl rfl entl_nil))))))
   (fun c4 h => no_some h))))
   (fun c2 h => no_some h))
   (fun c1 h => no_some h))
   (fun c0 h => bif_split h
   (fun c1 h => stop_at hS _ h (fun n => bif Nat.beq n 3 then 3 else n) rfl rfl rfl ⟨(rn_ptr (use_own rfl) rfl rfl), ⟨(rn_int rfl), ⟨(rn_unk _), ⟨(rn_unk _), ⟨(rn_int rfl), ⟨(rn_unk _), ⟨(rn_unk _), ⟨(rn_unk _), ⟨(rn_unk _), ⟨(rn_unk _), ⟨(rn_unk _), ⟨(rn_unk _), ⟨(rn_unk _), trivial⟩⟩⟩⟩⟩⟩⟩⟩⟩⟩⟩⟩⟩ rfl (entl_b (use_own rfl) rfl (by simp) (rb_cells ⟨(rn_loose (use_lo rfl) rfl rfl rfl), (rn_loose (use_lo rfl) rfl rfl rfl), (rn_loose (use_lo rfl) rfl rfl rfl), (rn_int rfl), trivial⟩) (entl_bor (use_lo rfl) rfl rfl (entl_bor (use_lo rfl) rfl rfl (entl_bor (use_lo rfl) rfl rfl entl_nil)))))
   (fun c1 h => no_some h))
theorem a15 (ac nc mc : Nat) (tc : Nat → ByteArray) (vc : Nat → ByteArray) (gc : Nat → Int) (wc : Nat → Bool) (an nn mn : Nat) (tn : Nat → Int) (ag ng mg : Nat) (tg : Nat → Int) (vg : Nat → Int) (rc : Int) {r : Rt15} (h : Goes ((q15 ac nc mc tc vc gc wc an nn mn tn ag ng mg tg vg rc)) ((p15 ac nc mc tc vc gc wc an nn mn tn ag ng mg tg vg rc)) r) : CallR Try.prog 15 [.agg [.loose ⟨0, 4, ac, 0⟩ nc, .loose ⟨1, 1, an, 0⟩ nn, .loose ⟨2, 2, ag, 0⟩ ng, .int .i64 rc]] [[(0, (false, .cols mc [.str tc, .str vc, .int .i64 gc, .bool wc])), (1, (false, .cols mn [.int .i64 tn])), (2, (false, .cols mg [.int .i64 tg, .int .i64 vg]))]] 3 ((V15 ac nc mc tc vc gc wc an nn mn tn ag ng mg tg vg rc) r) ((fun r => [newL (3 + 1) ((N15 ac nc mc tc vc gc wc an nn mn tn ag ng mg tg vg rc) r) ++ [(0, (false, .cols mc [.str tc, .str vc, .int .i64 gc, .bool wc])), (1, (false, .cols mn [.int .i64 tn])), (2, (false, .cols mg [.int .i64 tg, .int .i64 vg]))]]) r) 400 ∧ ∃ F, Try.prog.funcs[15]? = some F ∧ F.body.isSome = true ∧ (F.name == "runtime.NumGoroutine") = false := by
  refine dec_calls (f := 15) (lo := 3) (hi := 400) (H := [[(0, (false, .cols mc [.str tc, .str vc, .int .i64 gc, .bool wc])), (1, (false, .cols mn [.int .i64 tn])), (2, (false, .cols mg [.int .i64 tg, .int .i64 vg]))]]) (args := [.agg [.loose ⟨0, 4, ac, 0⟩ nc, .loose ⟨1, 1, an, 0⟩ nn, .loose ⟨2, 2, ag, 0⟩ ng, .int .i64 rc]]) Try.envOk Try.mixed xC_ok ((I15 ac nc mc tc vc gc wc an nn mn tn ag ng mg tg vg rc)) ((V15 ac nc mc tc vc gc wc an nn mn tn ag ng mg tg vg rc)) (fun r => [newL (3 + 1) ((N15 ac nc mc tc vc gc wc an nn mn tn ag ng mg tg vg rc) r) ++ [(0, (false, .cols mc [.str tc, .str vc, .int .i64 gc, .bool wc])), (1, (false, .cols mn [.int .i64 tn])), (2, (false, .cols mg [.int .i64 tg, .int .i64 vg]))]]) (fn := mkFn Try.f15) (ts := [1, 4, 5, 6, 7, 8, 9, 69, 70, 71, 72, 73, 74]) (n := 400) rfl (by decide) (by simp) (names_of rfl) ?_ ?_ ?_ h
  · intro s; cases s <;> exact ⟨hd_ok _ _, by simp [I15], names_of rfl, Nat.le_of_ble_eq_true rfl⟩
  · intro Kst Kret x hS hR h
    exact Holds.eq (te15 cond Kst Kret ac nc mc tc vc gc wc an nn mn tn ag ng mg tg vg rc) (be15 ac nc mc tc vc gc wc an nn mn tn ag ng mg tg vg rc Kst Kret x hS hR h)
  · intro Kst Kret x hS hR s h
    cases s with
    | h0 x0 x1 => exact Holds.eq (t15_0 cond Kst Kret ac nc mc tc vc gc wc an nn mn tn ag ng mg tg vg rc x0 x1) (b15_0 ac nc mc tc vc gc wc an nn mn tn ag ng mg tg vg rc Kst Kret x hS hR x0 x1 h)
    | h1 x0 => exact Holds.eq (t15_1 cond Kst Kret ac nc mc tc vc gc wc an nn mn tn ag ng mg tg vg rc x0) (b15_1 ac nc mc tc vc gc wc an nn mn tn ag ng mg tg vg rc Kst Kret x hS hR x0 h)
    | h2 x0 x1 x2 x3 x4 => exact Holds.eq (t15_2 cond Kst Kret ac nc mc tc vc gc wc an nn mn tn ag ng mg tg vg rc x0 x1 x2 x3 x4) (b15_2 ac nc mc tc vc gc wc an nn mn tn ag ng mg tg vg rc Kst Kret x hS hR x0 x1 x2 x3 x4 h)
noncomputable def k15 : Con := ⟨15, [.agg [.list [.str, .str, .int .i64, .bool], .list [.int .i64], .list [.int .i64, .int .i64], .plain (.int .i64)]], fun (x : ((Nat × Nat × Nat × (Nat → ByteArray) × (Nat → ByteArray) × (Nat → Int) × (Nat → Bool) × Unit) × (Nat × Nat × Nat × (Nat → Int) × Unit) × (Nat × Nat × Nat × (Nat → Int) × (Nat → Int) × Unit) × Int × Unit) × Unit) => (fun (ac nc mc : Nat) (tc : Nat → ByteArray) (vc : Nat → ByteArray) (gc : Nat → Int) (wc : Nat → Bool) (an nn mn : Nat) (tn : Nat → Int) (ag ng mg : Nat) (tg : Nat → Int) (vg : Nat → Int) (rc : Int) => decide (ac + nc ≤ mc ∧ an + nn ≤ mn ∧ ag + ng ≤ mg)) x.1.1.1 x.1.1.2.1 x.1.1.2.2.1 x.1.1.2.2.2.1 x.1.1.2.2.2.2.1 x.1.1.2.2.2.2.2.1 x.1.1.2.2.2.2.2.2.1 x.1.2.1.1 x.1.2.1.2.1 x.1.2.1.2.2.1 x.1.2.1.2.2.2.1 x.1.2.2.1.1 x.1.2.2.1.2.1 x.1.2.2.1.2.2.1 x.1.2.2.1.2.2.2.1 x.1.2.2.1.2.2.2.2.1 x.1.2.2.2.1, fun (x : ((Nat × Nat × Nat × (Nat → ByteArray) × (Nat → ByteArray) × (Nat → Int) × (Nat → Bool) × Unit) × (Nat × Nat × Nat × (Nat → Int) × Unit) × (Nat × Nat × Nat × (Nat → Int) × (Nat → Int) × Unit) × Int × Unit) × Unit) => (fun (ac nc mc : Nat) (tc : Nat → ByteArray) (vc : Nat → ByteArray) (gc : Nat → Int) (wc : Nat → Bool) (an nn mn : Nat) (tn : Nat → Int) (ag ng mg : Nat) (tg : Nat → Int) (vg : Nat → Int) (rc : Int) => (V15 ac nc mc tc vc gc wc an nn mn tn ag ng mg tg vg rc) (S.ttE nc (fun j => tc (j + ac)) (fun j => vc (j + ac)) (fun j => gc (j + ac)) nn (fun j => tn (j + an)) ng (fun j => tg (j + ag)) (fun j => vg (j + ag)) rc)) x.1.1.1 x.1.1.2.1 x.1.1.2.2.1 x.1.1.2.2.2.1 x.1.1.2.2.2.2.1 x.1.1.2.2.2.2.2.1 x.1.1.2.2.2.2.2.2.1 x.1.2.1.1 x.1.2.1.2.1 x.1.2.1.2.2.1 x.1.2.1.2.2.2.1 x.1.2.2.1.1 x.1.2.2.1.2.1 x.1.2.2.1.2.2.1 x.1.2.2.1.2.2.2.1 x.1.2.2.1.2.2.2.2.1 x.1.2.2.2.1, fun (x : ((Nat × Nat × Nat × (Nat → ByteArray) × (Nat → ByteArray) × (Nat → Int) × (Nat → Bool) × Unit) × (Nat × Nat × Nat × (Nat → Int) × Unit) × (Nat × Nat × Nat × (Nat → Int) × (Nat → Int) × Unit) × Int × Unit) × Unit) => (fun (ac nc mc : Nat) (tc : Nat → ByteArray) (vc : Nat → ByteArray) (gc : Nat → Int) (wc : Nat → Bool) (an nn mn : Nat) (tn : Nat → Int) (ag ng mg : Nat) (tg : Nat → Int) (vg : Nat → Int) (rc : Int) => (N15 ac nc mc tc vc gc wc an nn mn tn ag ng mg tg vg rc) (S.ttE nc (fun j => tc (j + ac)) (fun j => vc (j + ac)) (fun j => gc (j + ac)) nn (fun j => tn (j + an)) ng (fun j => tg (j + ag)) (fun j => vg (j + ag)) rc)) x.1.1.1 x.1.1.2.1 x.1.1.2.2.1 x.1.1.2.2.2.1 x.1.1.2.2.2.2.1 x.1.1.2.2.2.2.2.1 x.1.1.2.2.2.2.2.2.1 x.1.2.1.1 x.1.2.1.2.1 x.1.2.1.2.2.1 x.1.2.1.2.2.2.1 x.1.2.2.1.1 x.1.2.2.1.2.1 x.1.2.2.1.2.2.1 x.1.2.2.1.2.2.2.1 x.1.2.2.1.2.2.2.2.1 x.1.2.2.2.1, fun _ _ => .dead⟩
theorem s15i (ac nc mc : Nat) (tc : Nat → ByteArray) (vc : Nat → ByteArray) (gc : Nat → Int) (wc : Nat → Bool) (an nn mn : Nat) (tn : Nat → Int) (ag ng mg : Nat) (tg : Nat → Int) (vg : Nat → Int) (rc : Int) (hp : ac + nc ≤ mc ∧ an + nn ≤ mn ∧ ag + ng ≤ mg) (h6 : ng ≤ 36) (i : Nat) (hi : i < ng) (R : Int) (hN : S.any (fun j => decide (tg (j + ag) = tg (i + ag)) && decide (vg (j + ag) = vg (i + ag))) i = false → Comes (q15 ac nc mc tc vc gc wc an nn mn tn ag ng mg tg vg rc) (.h1 ((i : Int) + 1)) R) (hE : S.any (fun j => decide (tg (j + ag) = tg (i + ag)) && decide (vg (j + ag) = vg (i + ag))) i = true → 5 = R) (x2 : Int) : ∀ d j : Nat, j + d = i → S.any (fun j => decide (tg (j + ag) = tg (i + ag)) && decide (vg (j + ag) = vg (i + ag))) j = false → Comes (q15 ac nc mc tc vc gc wc an nn mn tn ag ng mg tg vg rc) (.h2 (i : Int) (j : Int) x2 (tg (i + ag)) (vg (i + ag))) R := by
  obtain ⟨hp1, hp2, hp3⟩ := hp
  intro d
  induction d with
  | zero =>
    intro j hj ha
    obtain rfl : j = i := by omega
    have hN := hN ha
    apply Comes.of
    show Goes _ _ _
    (first | rw [q15] | unfold q15)
    repeat' first
      | with_reducible refine goes_if (fun h => ?_) (fun h => ?_) <;> (try simp only [lim64, imp_false, decide_eq_true_eq, decide_eq_false_iff_not, Int.toNat_natCast, toNat_pred, toNat_succ, Option.getD_some, Option.getD_none, Bool.not_eq_true', Bool.not_eq_false', Bool.and_eq_true, Bool.or_eq_true, Bool.and_eq_false_iff, Bool.or_eq_false_iff, bne_iff_ne, beq_iff_eq, bne_eq_false_iff_eq, beq_eq_false_iff_ne, ne_eq, not_and, Int.not_le, Int.not_lt, ge_iff_le, gt_iff_lt, Nat.not_lt, Nat.not_le, Bool.not_eq_true, Bool.not_eq_false, Bool.true_eq_false, Bool.false_eq_true, not_false_eq_true, not_true_eq_false] at h)
      | exact goes_none.mpr (by omega)
    all_goals first | (exfalso; omega) | exact hN
  | succ d ih =>
    intro j hj ha
    cases hq : (tg (j + ag) == tg (i + ag) && (vg (j + ag) == vg (i + ag) && true))
    · have hq' : (decide (tg (j + ag) = tg (i + ag)) && decide (vg (j + ag) = vg (i + ag))) = false := by rw [← hq, Bool.and_true]; rfl
      have ih := ih (j + 1) (by omega) (by rw [any_sc, ha]; exact hq')
      clear hN hE hq'
      generalize tg (i + ag) = y1 at *
      generalize vg (i + ag) = y2 at *
      apply Comes.of
      rw [q15]
      simp only [Int.toNat_natCast, hq]
      repeat' first
        | with_reducible refine goes_if (fun h => ?_) (fun h => ?_) <;> (try simp only [lim64, imp_false, decide_eq_true_eq, decide_eq_false_iff_not, Int.toNat_natCast, toNat_pred, toNat_succ, Option.getD_some, Option.getD_none, Bool.not_eq_true', Bool.not_eq_false', Bool.and_eq_true, Bool.or_eq_true, Bool.and_eq_false_iff, Bool.or_eq_false_iff, bne_iff_ne, beq_iff_eq, bne_eq_false_iff_eq, beq_eq_false_iff_ne, ne_eq, not_and, Int.not_le, Int.not_lt, ge_iff_le, gt_iff_lt, Nat.not_lt, Nat.not_le, Bool.not_eq_true, Bool.not_eq_false, Bool.true_eq_false, Bool.false_eq_true, not_false_eq_true, not_true_eq_false] at h)
        | exact goes_none.mpr (by omega)
      all_goals first | (exfalso; omega) | exact ih
    · have hq' : (decide (tg (j + ag) = tg (i + ag)) && decide (vg (j + ag) = vg (i + ag))) = true := by rw [← hq, Bool.and_true]; rfl
      have hE5 := hE (any_iff.mpr ⟨j, by omega, hq'⟩)
      clear hN ih hq' hE
      generalize tg (i + ag) = y1 at *
      generalize vg (i + ag) = y2 at *
      apply Comes.of
      rw [q15]
      simp only [Int.toNat_natCast, hq]
      repeat' first
        | with_reducible refine goes_if (fun h => ?_) (fun h => ?_) <;> (try simp only [lim64, imp_false, decide_eq_true_eq, decide_eq_false_iff_not, Int.toNat_natCast, toNat_pred, toNat_succ, Option.getD_some, Option.getD_none, Bool.not_eq_true', Bool.not_eq_false', Bool.and_eq_true, Bool.or_eq_true, Bool.and_eq_false_iff, Bool.or_eq_false_iff, bne_iff_ne, beq_iff_eq, bne_eq_false_iff_eq, beq_eq_false_iff_ne, ne_eq, not_and, Int.not_le, Int.not_lt, ge_iff_le, gt_iff_lt, Nat.not_lt, Nat.not_le, Bool.not_eq_true, Bool.not_eq_false, Bool.true_eq_false, Bool.false_eq_true, not_false_eq_true, not_true_eq_false] at h)
        | exact goes_none.mpr (by omega)
      all_goals first | (exfalso; omega) | exact hE5
theorem s15c (ac nc mc : Nat) (tc : Nat → ByteArray) (vc : Nat → ByteArray) (gc : Nat → Int) (wc : Nat → Bool) (an nn mn : Nat) (tn : Nat → Int) (ag ng mg : Nat) (tg : Nat → Int) (vg : Nat → Int) (rc : Int) (hp : ac + nc ≤ mc ∧ an + nn ≤ mn ∧ ag + ng ≤ mg) : ∀ k i : Nat, i + k = ng → ng ≤ 36 → nc ≤ 6 → Comes (q15 ac nc mc tc vc gc wc an nn mn tn ag ng mg tg vg rc) (.h1 (i : Int)) (S.nz (S.forE nc (fun j => tg (j + ag)) (fun j => vg (j + ag)) i k) (if 0 ≤ rc ∧ rc ≤ 1000 then 0 else 6)) := by
  intro k
  induction k with
  | zero =>
    intro i hi h1 h3
    have e : S.nz (S.forE nc (fun j => tg (j + ag)) (fun j => vg (j + ag)) i 0) (if 0 ≤ rc ∧ rc ≤ 1000 then 0 else 6) = (if 0 ≤ rc ∧ rc ≤ 1000 then 0 else 6) := if_pos rfl
    rw [e]
    by_cases hr : 0 ≤ rc ∧ rc ≤ 1000
    · rw [if_pos hr]
      apply Comes.of
      show Goes _ _ _
      (first | rw [q15] | unfold q15)
      repeat' first
        | with_reducible refine goes_if (fun h => ?_) (fun h => ?_) <;> (try simp only [lim64, imp_false, decide_eq_true_eq, decide_eq_false_iff_not, Int.toNat_natCast, toNat_pred, toNat_succ, Option.getD_some, Option.getD_none, Bool.not_eq_true', Bool.not_eq_false', Bool.and_eq_true, Bool.or_eq_true, Bool.and_eq_false_iff, Bool.or_eq_false_iff, bne_iff_ne, beq_iff_eq, bne_eq_false_iff_eq, beq_eq_false_iff_ne, ne_eq, not_and, Int.not_le, Int.not_lt, ge_iff_le, gt_iff_lt, Nat.not_lt, Nat.not_le, Bool.not_eq_true, Bool.not_eq_false, Bool.true_eq_false, Bool.false_eq_true, not_false_eq_true, not_true_eq_false] at h)
        | exact goes_none.mpr (by omega)
      all_goals first | (exfalso; omega) | rfl
    · rw [if_neg hr]
      apply Comes.of
      show Goes _ _ _
      (first | rw [q15] | unfold q15)
      repeat' first
        | with_reducible refine goes_if (fun h => ?_) (fun h => ?_) <;> (try simp only [lim64, imp_false, decide_eq_true_eq, decide_eq_false_iff_not, Int.toNat_natCast, toNat_pred, toNat_succ, Option.getD_some, Option.getD_none, Bool.not_eq_true', Bool.not_eq_false', Bool.and_eq_true, Bool.or_eq_true, Bool.and_eq_false_iff, Bool.or_eq_false_iff, bne_iff_ne, beq_iff_eq, bne_eq_false_iff_eq, beq_eq_false_iff_ne, ne_eq, not_and, Int.not_le, Int.not_lt, ge_iff_le, gt_iff_lt, Nat.not_lt, Nat.not_le, Bool.not_eq_true, Bool.not_eq_false, Bool.true_eq_false, Bool.false_eq_true, not_false_eq_true, not_true_eq_false] at h)
        | exact goes_none.mpr (by omega)
      all_goals first | (exfalso; omega) | rfl
  | succ k ih =>
    intro i hi h1 h3
    have ih := ih (i + 1) (by omega) h1 h3
    have hin := fun x2 R h1' h2' => s15i ac nc mc tc vc gc wc an nn mn tn ag ng mg tg vg rc hp h1 i (by omega) R h1' h2' x2 i 0 (Nat.zero_add _) rfl
    obtain ⟨hp1, hp2, hp3⟩ := hp
    simp only [S.forE]
    by_cases hr : 0 ≤ tg (i + ag) ∧ tg (i + ag) ≤ (nc : Int) - 1 ∧ 0 ≤ vg (i + ag) ∧ vg (i + ag) ≤ (nc : Int) - 1
    · rw [if_pos hr]
      apply Comes.of
      rw [q15]
      simp only [Int.toNat_natCast]
      repeat' first
        | with_reducible refine goes_if (fun h => ?_) (fun h => ?_) <;> (try simp only [lim64, imp_false, decide_eq_true_eq, decide_eq_false_iff_not, Int.toNat_natCast, toNat_pred, toNat_succ, Option.getD_some, Option.getD_none, Bool.not_eq_true', Bool.not_eq_false', Bool.and_eq_true, Bool.or_eq_true, Bool.and_eq_false_iff, Bool.or_eq_false_iff, bne_iff_ne, beq_iff_eq, bne_eq_false_iff_eq, beq_eq_false_iff_ne, ne_eq, not_and, Int.not_le, Int.not_lt, ge_iff_le, gt_iff_lt, Nat.not_lt, Nat.not_le, Bool.not_eq_true, Bool.not_eq_false, Bool.true_eq_false, Bool.false_eq_true, not_false_eq_true, not_true_eq_false] at h)
        | exact goes_none.mpr (by omega)
      all_goals first | (exfalso; omega) | skip
      refine hin _ _ (fun ha => ?_) (fun ha => ?_)
      · rw [if_neg (by rw [ha]; exact Bool.false_ne_true)]; exact ih
      · rw [if_pos ha]; rfl
    · rw [if_neg hr]
      clear hin ih
      apply Comes.of
      rw [q15]
      simp only [Int.toNat_natCast]
      repeat' first
        | with_reducible refine goes_if (fun h => ?_) (fun h => ?_) <;> (try simp only [lim64, imp_false, decide_eq_true_eq, decide_eq_false_iff_not, Int.toNat_natCast, toNat_pred, toNat_succ, Option.getD_some, Option.getD_none, Bool.not_eq_true', Bool.not_eq_false', Bool.and_eq_true, Bool.or_eq_true, Bool.and_eq_false_iff, Bool.or_eq_false_iff, bne_iff_ne, beq_iff_eq, bne_eq_false_iff_eq, beq_eq_false_iff_ne, ne_eq, not_and, Int.not_le, Int.not_lt, ge_iff_le, gt_iff_lt, Nat.not_lt, Nat.not_le, Bool.not_eq_true, Bool.not_eq_false, Bool.true_eq_false, Bool.false_eq_true, not_false_eq_true, not_true_eq_false] at h)
        | exact goes_none.mpr (by omega)
      all_goals first | (exfalso; omega) | rfl
theorem s15b (ac nc mc : Nat) (tc : Nat → ByteArray) (vc : Nat → ByteArray) (gc : Nat → Int) (wc : Nat → Bool) (an nn mn : Nat) (tn : Nat → Int) (ag ng mg : Nat) (tg : Nat → Int) (vg : Nat → Int) (rc : Int) (R : Int) (hR : ng ≤ 36 → Comes (q15 ac nc mc tc vc gc wc an nn mn tn ag ng mg tg vg rc) (.h1 0) R) (hE : 36 < ng → 3 = R) (hp : ac + nc ≤ mc ∧ an + nn ≤ mn ∧ ag + ng ≤ mg) (hn : nn = nc) : ∀ (k i : Nat) (x0 : Int), i + k = nn → nn ≤ 6 → 0 ≤ x0 → x0 ≤ 4 * i → Comes (q15 ac nc mc tc vc gc wc an nn mn tn ag ng mg tg vg rc) (.h0 x0 (i : Int)) (S.nz (S.cntE (fun j => tn (j + an)) i k x0) R) := by
  obtain ⟨hp1, hp2, hp3⟩ := hp
  intro k
  induction k with
  | zero =>
    intro i x0 hi h1 h2 h3
    simp only [S.cntE]
    by_cases hr : 1 ≤ x0 ∧ x0 ≤ 8
    · rw [if_pos hr]
      have e : S.nz 0 R = R := if_pos rfl
      rw [e]
      apply Comes.of
      show Goes _ _ _
      (first | rw [q15] | unfold q15)
      repeat' first
        | with_reducible refine goes_if (fun h => ?_) (fun h => ?_) <;> (try simp only [lim64, imp_false, decide_eq_true_eq, decide_eq_false_iff_not, Int.toNat_natCast, toNat_pred, toNat_succ, Option.getD_some, Option.getD_none, Bool.not_eq_true', Bool.not_eq_false', Bool.and_eq_true, Bool.or_eq_true, Bool.and_eq_false_iff, Bool.or_eq_false_iff, bne_iff_ne, beq_iff_eq, bne_eq_false_iff_eq, beq_eq_false_iff_ne, ne_eq, not_and, Int.not_le, Int.not_lt, ge_iff_le, gt_iff_lt, Nat.not_lt, Nat.not_le, Bool.not_eq_true, Bool.not_eq_false, Bool.true_eq_false, Bool.false_eq_true, not_false_eq_true, not_true_eq_false] at h)
        | exact goes_none.mpr (by omega)
      all_goals first | (exfalso; omega) | exact hE (by omega) | exact hR (by omega)
    · rw [if_neg hr]
      apply Comes.of
      show Goes _ _ _
      (first | rw [q15] | unfold q15)
      repeat' first
        | with_reducible refine goes_if (fun h => ?_) (fun h => ?_) <;> (try simp only [lim64, imp_false, decide_eq_true_eq, decide_eq_false_iff_not, Int.toNat_natCast, toNat_pred, toNat_succ, Option.getD_some, Option.getD_none, Bool.not_eq_true', Bool.not_eq_false', Bool.and_eq_true, Bool.or_eq_true, Bool.and_eq_false_iff, Bool.or_eq_false_iff, bne_iff_ne, beq_iff_eq, bne_eq_false_iff_eq, beq_eq_false_iff_ne, ne_eq, not_and, Int.not_le, Int.not_lt, ge_iff_le, gt_iff_lt, Nat.not_lt, Nat.not_le, Bool.not_eq_true, Bool.not_eq_false, Bool.true_eq_false, Bool.false_eq_true, not_false_eq_true, not_true_eq_false] at h)
        | exact goes_none.mpr (by omega)
      all_goals first | (exfalso; omega) | rfl
  | succ k ih =>
    intro i x0 hi h1 h2 h3
    simp only [S.cntE]
    by_cases hr : 0 ≤ tn (i + an) ∧ tn (i + an) ≤ 4
    · rw [if_pos hr]
      have ih := ih (i + 1) (x0 + tn (i + an)) (by omega) h1 (by omega) (by omega)
      apply Comes.of
      show Goes _ _ _
      (first | rw [q15] | unfold q15)
      repeat' first
        | with_reducible refine goes_if (fun h => ?_) (fun h => ?_) <;> (try simp only [lim64, imp_false, decide_eq_true_eq, decide_eq_false_iff_not, Int.toNat_natCast, toNat_pred, toNat_succ, Option.getD_some, Option.getD_none, Bool.not_eq_true', Bool.not_eq_false', Bool.and_eq_true, Bool.or_eq_true, Bool.and_eq_false_iff, Bool.or_eq_false_iff, bne_iff_ne, beq_iff_eq, bne_eq_false_iff_eq, beq_eq_false_iff_ne, ne_eq, not_and, Int.not_le, Int.not_lt, ge_iff_le, gt_iff_lt, Nat.not_lt, Nat.not_le, Bool.not_eq_true, Bool.not_eq_false, Bool.true_eq_false, Bool.false_eq_true, not_false_eq_true, not_true_eq_false] at h)
        | exact goes_none.mpr (by omega)
      all_goals first | (exfalso; omega) | exact ih
    · rw [if_neg hr]
      apply Comes.of
      show Goes _ _ _
      (first | rw [q15] | unfold q15)
      repeat' first
        | with_reducible refine goes_if (fun h => ?_) (fun h => ?_) <;> (try simp only [lim64, imp_false, decide_eq_true_eq, decide_eq_false_iff_not, Int.toNat_natCast, toNat_pred, toNat_succ, Option.getD_some, Option.getD_none, Bool.not_eq_true', Bool.not_eq_false', Bool.and_eq_true, Bool.or_eq_true, Bool.and_eq_false_iff, Bool.or_eq_false_iff, bne_iff_ne, beq_iff_eq, bne_eq_false_iff_eq, beq_eq_false_iff_ne, ne_eq, not_and, Int.not_le, Int.not_lt, ge_iff_le, gt_iff_lt, Nat.not_lt, Nat.not_le, Bool.not_eq_true, Bool.not_eq_false, Bool.true_eq_false, Bool.false_eq_true, not_false_eq_true, not_true_eq_false] at h)
        | exact goes_none.mpr (by omega)
      all_goals first | (exfalso; omega) | rfl
theorem cycS_6 {n : Nat} {t v : Nat → ByteArray} {g : Nat → Int} (h : S.cycS n t v g = 0) : n ≤ 6 := by
  unfold S.cycS at h
  split at h
  · cases h
  · split at h
    · cases h
    · omega
theorem s15 (ac nc mc : Nat) (tc : Nat → ByteArray) (vc : Nat → ByteArray) (gc : Nat → Int) (wc : Nat → Bool) (an nn mn : Nat) (tn : Nat → Int) (ag ng mg : Nat) (tg : Nat → Int) (vg : Nat → Int) (rc : Int) (hp : ac + nc ≤ mc ∧ an + nn ≤ mn ∧ ag + ng ≤ mg) : Goes ((q15 ac nc mc tc vc gc wc an nn mn tn ag ng mg tg vg rc)) ((p15 ac nc mc tc vc gc wc an nn mn tn ag ng mg tg vg rc)) (S.ttE nc (fun j => tc (j + ac)) (fun j => vc (j + ac)) (fun j => gc (j + ac)) nn (fun j => tn (j + an)) ng (fun j => tg (j + ag)) (fun j => vg (j + ag)) rc) := by
  unfold S.ttE
  unfold p15
  refine goes_ok (decide_eq_true hp.1) ?_
  by_cases h0 : S.cycS nc (fun j => tc (j + ac)) (fun j => vc (j + ac)) (fun j => gc (j + ac)) = 0
  · have h6 := cycS_6 h0
    refine goes_no (by rw [h0]; rfl) ?_
    rw [h0]
    have e : ∀ R, S.nz 0 R = R := fun R => if_pos rfl
    rw [e]
    by_cases hn : nn = nc
    · rw [if_pos hn]
      refine goes_no (by subst hn; simp) ?_
      refine s15b ac nc mc tc vc gc wc an nn mn tn ag ng mg tg vg rc (if 36 < ng then 3 else S.nz (S.forE nc (fun j => tg (j + ag)) (fun j => vg (j + ag)) 0 ng) (if 0 ≤ rc ∧ rc ≤ 1000 then 0 else 6)) (fun hg => ?_) (fun hg => by rw [if_pos hg]) hp hn nn 0 0 (Nat.zero_add _) (by omega) (Int.le_refl _) (by omega)
      rw [if_neg (by omega)]
      exact s15c ac nc mc tc vc gc wc an nn mn tn ag ng mg tg vg rc hp ng 0 (Nat.zero_add _) hg h6
    · rw [if_neg hn]
      exact goes_ok (by simp; omega) rfl
  · have e : ∀ R, S.nz (S.cycS nc (fun j => tc (j + ac)) (fun j => vc (j + ac)) (fun j => gc (j + ac))) R = S.cycS nc (fun j => tc (j + ac)) (fun j => vc (j + ac)) (fun j => gc (j + ac)) := fun R => if_neg h0
    rw [e]
    exact goes_ok (by simpa using h0) rfl

theorem k15_ok : k15.ok Try.prog := by
  intro x hx
  obtain ⟨⟨⟨ac, nc, mc, tc, vc, gc, wc, _⟩, ⟨an, nn, mn, tn, _⟩, ⟨ag, ng, mg, tg, vg, _⟩, rc, _⟩, _⟩ := x
  obtain ⟨h1, h2⟩ := a15 ac nc mc tc vc gc wc an nn mn tn ag ng mg tg vg rc (s15 ac nc mc tc vc gc wc an nn mn tn ag ng mg tg vg rc (of_dec hx rfl))
  exact ⟨⟨400, (by decide : 3 + 1 + 0 ≤ 400), h1⟩, h2⟩
noncomputable def xF (test : Bool → Prop → Prop → Prop) : Ext := consX test [k15]
theorem xF_ok : ExtOk Try.prog (xF cond) := consX_ok ⟨k15_ok, trivial⟩

end Go.Ev
