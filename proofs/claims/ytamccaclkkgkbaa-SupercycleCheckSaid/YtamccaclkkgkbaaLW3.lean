/-
  The law of Check.
-/
import Derived.Test.YtamccaclkkgkbaaLX
namespace Go.Ev
open Go.Proofs
set_option linter.unusedVariables false
set_option linter.unusedSimpArgs false
set_option maxRecDepth 100000
abbrev St3 := Empty
abbrev Rt3 := Bool
noncomputable def V3 (ac nc mc : Nat) (tc : Nat → ByteArray) (vc : Nat → ByteArray) (gc : Nat → Int) (wc : Nat → Bool) (an nn mn : Nat) (tn : Nat → Int) (ag ng mg : Nat) (tg : Nat → Int) (vg : Nat → Int) (rc : Int) (ao no mo : Nat) (to : Nat → Int) (r : Rt3) : PV := PV.bool r
noncomputable def N3 (ac nc mc : Nat) (tc : Nat → ByteArray) (vc : Nat → ByteArray) (gc : Nat → Int) (wc : Nat → Bool) (an nn mn : Nat) (tn : Nat → Int) (ag ng mg : Nat) (tg : Nat → Int) (vg : Nat → Int) (rc : Int) (ao no mo : Nat) (to : Nat → Int) (r : Rt3) : List Blk := []
noncomputable def I3 (ac nc mc : Nat) (tc : Nat → ByteArray) (vc : Nat → ByteArray) (gc : Nat → Int) (wc : Nat → Bool) (an nn mn : Nat) (tn : Nat → Int) (ag ng mg : Nat) (tg : Nat → Int) (vg : Nat → Int) (rc : Int) (ao no mo : Nat) (to : Nat → Int) : St3 → Hd := fun s => s.elim
noncomputable def q3 (ac nc mc : Nat) (tc : Nat → ByteArray) (vc : Nat → ByteArray) (gc : Nat → Int) (wc : Nat → Bool) (an nn mn : Nat) (tn : Nat → Int) (ag ng mg : Nat) (tg : Nat → Int) (vg : Nat → Int) (rc : Int) (ao no mo : Nat) (to : Nat → Int) : St3 → Option (St3 ⊕ Rt3) := fun s => s.elim
noncomputable def p3 (ac nc mc : Nat) (tc : Nat → ByteArray) (vc : Nat → ByteArray) (gc : Nat → Int) (wc : Nat → Bool) (an nn mn : Nat) (tn : Nat → Int) (ag ng mg : Nat) (tg : Nat → Int) (vg : Nat → Int) (rc : Int) (ao no mo : Nat) (to : Nat → Int) : Option (St3 ⊕ Rt3) := bif (decide (ac + nc ≤ mc ∧ an + nn ≤ mn ∧ ag + ng ≤ mg))
 then (bif (S.fewS nc (fun (j : Nat) => tc (j + ac)) (fun (j : Nat) => vc (j + ac)) nn (fun (j : Nat) => tn (j + an)) ng
 (S.ttE nc (fun (j : Nat) => tc (j + ac)) (fun (j : Nat) => vc (j + ac)) (fun (j : Nat) => gc (j + ac)) nn
 (fun (j : Nat) => tn (j + an)) ng (fun (j : Nat) => tg (j + ag)) (fun (j : Nat) => vg (j + ag)) rc))
 then (bif (decide ((↑no : Int) > (20 : Int)))
 then (some (.inr (true)))
 else (bif (decide (ao + no ≤ mo ∧ no ≤ 1000000))
 then (bif (decide (ac + nc ≤ mc ∧ an + nn ≤ mn ∧ ag + ng ≤ mg ∧ 0 + no ≤ no ∧ no ≤ 20))
 then (bif (decide (ac + nc ≤ mc ∧ an + nn ≤ mn ∧ ag + ng ≤ mg ∧ ao + no ≤ mo ∧ no ≤ 20))
 then (bif (S.ttE nc (fun (j : Nat) => tc (j + ac)) (fun (j : Nat) => vc (j + ac)) (fun (j : Nat) => gc (j + ac)) nn
 (fun (j : Nat) => tn (j + an)) ng (fun (j : Nat) => tg (j + ag)) (fun (j : Nat) => vg (j + ag)) rc ==
 S.ttE nc (fun (j : Nat) => tc (j + ac)) (fun (j : Nat) => vc (j + ac)) (fun (j : Nat) => gc (j + ac)) nn
 (fun (j : Nat) => tn (j + an)) ng (fun (j : Nat) => tg (j + ag)) (fun (j : Nat) => vg (j + ag)) rc)
 then (bif (Prod.fst
 (S.chkS
 (S.ttE nc (fun (j : Nat) => tc (j + ac)) (fun (j : Nat) => vc (j + ac)) (fun (j : Nat) => gc (j + ac)) nn
 (fun (j : Nat) => tn (j + an)) ng (fun (j : Nat) => tg (j + ag)) (fun (j : Nat) => vg (j + ag)) rc)
 (S.runS nc (fun (j : Nat) => gc (j + ac)) (fun (j : Nat) => wc (j + ac)) ng (fun (j : Nat) => tg (j + ag))
 (fun (j : Nat) => vg (j + ag)) rc (fun (j : Nat) => to (j + ao)) (0) no (0 : Int) (-1 : Int) rc
 (S.mkl nn fun (j : Nat) => tn (j + an)) [])) ==
 Prod.fst
 (S.chkS
 (S.ttE nc (fun (j : Nat) => tc (j + ac)) (fun (j : Nat) => vc (j + ac)) (fun (j : Nat) => gc (j + ac)) nn
 (fun (j : Nat) => tn (j + an)) ng (fun (j : Nat) => tg (j + ag)) (fun (j : Nat) => vg (j + ag)) rc)
 (S.runS nc (fun (j : Nat) => gc (j + ac)) (fun (j : Nat) => wc (j + ac)) ng (fun (j : Nat) => tg (j + ag))
 (fun (j : Nat) => vg (j + ag)) rc (fun (j : Nat) => to (j + ao)) (0) no (0 : Int) (-1 : Int) rc
 (S.mkl nn fun (j : Nat) => tn (j + an)) [])))
 then (bif (Prod.snd
 (S.chkS
 (S.ttE nc (fun (j : Nat) => tc (j + ac)) (fun (j : Nat) => vc (j + ac)) (fun (j : Nat) => gc (j + ac)) nn
 (fun (j : Nat) => tn (j + an)) ng (fun (j : Nat) => tg (j + ag)) (fun (j : Nat) => vg (j + ag)) rc)
 (S.runS nc (fun (j : Nat) => gc (j + ac)) (fun (j : Nat) => wc (j + ac)) ng (fun (j : Nat) => tg (j + ag))
 (fun (j : Nat) => vg (j + ag)) rc (fun (j : Nat) => to (j + ao)) (0) no (0 : Int) (-1 : Int) rc
 (S.mkl nn fun (j : Nat) => tn (j + an)) [])) ==
 Prod.snd
 (S.chkS
 (S.ttE nc (fun (j : Nat) => tc (j + ac)) (fun (j : Nat) => vc (j + ac)) (fun (j : Nat) => gc (j + ac)) nn
 (fun (j : Nat) => tn (j + an)) ng (fun (j : Nat) => tg (j + ag)) (fun (j : Nat) => vg (j + ag)) rc)
 (S.runS nc (fun (j : Nat) => gc (j + ac)) (fun (j : Nat) => wc (j + ac)) ng (fun (j : Nat) => tg (j + ag))
 (fun (j : Nat) => vg (j + ag)) rc (fun (j : Nat) => to (j + ao)) (0) no (0 : Int) (-1 : Int) rc
 (S.mkl nn fun (j : Nat) => tn (j + an)) [])))
 then (some (.inr (true)))
 else (some (.inr (false))))
 else (some (.inr (false))))
 else (some (.inr (false))))
 else (none))
 else (none))
 else (none)))
 else (some (.inr (true))))
 else (none)
noncomputable def Te3 (test : Bool → Prop → Prop → Prop) (Kst : KS) (Kret : KR) (ac nc mc : Nat) (tc : Nat → ByteArray) (vc : Nat → ByteArray) (gc : Nat → Int) (wc : Nat → Bool) (an nn mn : Nat) (tn : Nat → Int) (ag ng mg : Nat) (tg : Nat → Int) (vg : Nat → Int) (rc : Int) (ao no mo : Nat) (to : Nat → Int) : Prop :=
  test (true)
 (test (true)
 (test (decide (ac + nc ≤ mc ∧ an + nn ≤ mn ∧ ag + ng ≤ mg))
 (test (S.fewS nc (fun (j : Nat) => tc (j + ac)) (fun (j : Nat) => vc (j + ac)) nn (fun (j : Nat) => tn (j + an)) ng
 (S.ttE nc (fun (j : Nat) => tc (j + ac)) (fun (j : Nat) => vc (j + ac)) (fun (j : Nat) => gc (j + ac)) nn
 (fun (j : Nat) => tn (j + an)) ng (fun (j : Nat) => tg (j + ag)) (fun (j : Nat) => vg (j + ag)) rc))
 (test (decide ((↑no : Int) > (20 : Int)))
 (test (true)
 (test (true)
 (Kret (PV.tf true) ([[(3, false, Blk.cols mo [Col.int IntKind.i64 to]),
 (2, false, Blk.cols mg [Col.int IntKind.i64 tg, Col.int IntKind.i64 vg]),
 (1, false, Blk.cols mn [Col.int IntKind.i64 tn]),
 (0, false,
 Blk.cols mc [Col.str tc, Col.str vc, Col.int IntKind.i64 gc, Col.bool wc])]]) (8))
 (Kret (PV.tf false) ([[(3, false, Blk.cols mo [Col.int IntKind.i64 to]),
 (2, false, Blk.cols mg [Col.int IntKind.i64 tg, Col.int IntKind.i64 vg]),
 (1, false, Blk.cols mn [Col.int IntKind.i64 tn]),
 (0, false,
 Blk.cols mc [Col.str tc, Col.str vc, Col.int IntKind.i64 gc, Col.bool wc])]]) (8)))
 (False))
 (test (decide (ao + no ≤ mo ∧ no ≤ 1000000))
 (test (decide (ac + nc ≤ mc ∧ an + nn ≤ mn ∧ ag + ng ≤ mg ∧ 0 + no ≤ no ∧ no ≤ 20))
 (test (decide (ac + nc ≤ mc ∧ an + nn ≤ mn ∧ ag + ng ≤ mg ∧ ao + no ≤ mo ∧ no ≤ 20))
 (test (decide (ac + nc ≤ mc ∧ an + nn ≤ mn ∧ ag + ng ≤ mg))
 (test (decide (ac + nc ≤ mc ∧ an + nn ≤ mn ∧ ag + ng ≤ mg))
 (test (S.ttE nc (fun (j : Nat) => tc (j + ac)) (fun (j : Nat) => vc (j + ac)) (fun (j : Nat) => gc (j + ac)) nn
 (fun (j : Nat) => tn (j + an)) ng (fun (j : Nat) => tg (j + ag)) (fun (j : Nat) => vg (j + ag)) rc ==
 S.ttE nc (fun (j : Nat) => tc (j + ac)) (fun (j : Nat) => vc (j + ac)) (fun (j : Nat) => gc (j + ac)) nn
 (fun (j : Nat) => tn (j + an)) ng (fun (j : Nat) => tg (j + ag)) (fun (j : Nat) => vg (j + ag)) rc)
 (test (Prod.fst
 (S.chkS
 (S.ttE nc (fun (j : Nat) => tc (j + ac)) (fun (j : Nat) => vc (j + ac)) (fun (j : Nat) => gc (j + ac)) nn
 (fun (j : Nat) => tn (j + an)) ng (fun (j : Nat) => tg (j + ag)) (fun (j : Nat) => vg (j + ag)) rc)
 (S.runS nc (fun (j : Nat) => gc (j + ac)) (fun (j : Nat) => wc (j + ac)) ng (fun (j : Nat) => tg (j + ag))
 (fun (j : Nat) => vg (j + ag)) rc (fun (j : Nat) => to (j + ao)) (0) no (0 : Int) (-1 : Int) rc
 (S.mkl nn fun (j : Nat) => tn (j + an)) [])) ==
 Prod.fst
 (S.chkS
 (S.ttE nc (fun (j : Nat) => tc (j + ac)) (fun (j : Nat) => vc (j + ac)) (fun (j : Nat) => gc (j + ac)) nn
 (fun (j : Nat) => tn (j + an)) ng (fun (j : Nat) => tg (j + ag)) (fun (j : Nat) => vg (j + ag)) rc)
 (S.runS nc (fun (j : Nat) => gc (j + ac)) (fun (j : Nat) => wc (j + ac)) ng (fun (j : Nat) => tg (j + ag))
 (fun (j : Nat) => vg (j + ag)) rc (fun (j : Nat) => to (j + ao)) (0) no (0 : Int) (-1 : Int) rc
 (S.mkl nn fun (j : Nat) => tn (j + an)) [])))
 (test (Prod.snd
 (S.chkS
 (S.ttE nc (fun (j : Nat) => tc (j + ac)) (fun (j : Nat) => vc (j + ac)) (fun (j : Nat) => gc (j + ac)) nn
 (fun (j : Nat) => tn (j + an)) ng (fun (j : Nat) => tg (j + ag)) (fun (j : Nat) => vg (j + ag)) rc)
 (S.runS nc (fun (j : Nat) => gc (j + ac)) (fun (j : Nat) => wc (j + ac)) ng (fun (j : Nat) => tg (j + ag))
 (fun (j : Nat) => vg (j + ag)) rc (fun (j : Nat) => to (j + ao)) (0) no (0 : Int) (-1 : Int) rc
 (S.mkl nn fun (j : Nat) => tn (j + an)) [])) ==
 Prod.snd
 (S.chkS
 (S.ttE nc (fun (j : Nat) => tc (j + ac)) (fun (j : Nat) => vc (j + ac)) (fun (j : Nat) => gc (j + ac)) nn
 (fun (j : Nat) => tn (j + an)) ng (fun (j : Nat) => tg (j + ag)) (fun (j : Nat) => vg (j + ag)) rc)
 (S.runS nc (fun (j : Nat) => gc (j + ac)) (fun (j : Nat) => wc (j + ac)) ng (fun (j : Nat) => tg (j + ag))
 (fun (j : Nat) => vg (j + ag)) rc (fun (j : Nat) => to (j + ao)) (0) no (0 : Int) (-1 : Int) rc
 (S.mkl nn fun (j : Nat) => tn (j + an)) [])))
 (Kret (PV.tf true) ([[(3, false, Blk.cols mo [Col.int IntKind.i64 to]),
 (2, false, Blk.cols mg [Col.int IntKind.i64 tg, Col.int IntKind.i64 vg]),
 (1, false, Blk.cols mn [Col.int IntKind.i64 tn]),
 (0, false,
 Blk.cols mc [Col.str tc, Col.str vc, Col.int IntKind.i64 gc, Col.bool wc])]]) (13))
 (Kret (PV.tf false) ([[(3, false, Blk.cols mo [Col.int IntKind.i64 to]),
 (2, false, Blk.cols mg [Col.int IntKind.i64 tg, Col.int IntKind.i64 vg]),
 (1, false, Blk.cols mn [Col.int IntKind.i64 tn]),
 (0, false,
 Blk.cols mc [Col.str tc, Col.str vc, Col.int IntKind.i64 gc, Col.bool wc])]]) (13)))
 (Kret (PV.tf false) ([[(3, false, Blk.cols mo [Col.int IntKind.i64 to]),
 (2, false, Blk.cols mg [Col.int IntKind.i64 tg, Col.int IntKind.i64 vg]),
 (1, false, Blk.cols mn [Col.int IntKind.i64 tn]),
 (0, false,
 Blk.cols mc [Col.str tc, Col.str vc, Col.int IntKind.i64 gc, Col.bool wc])]]) (13)))
 (Kret (PV.tf false) ([[(3, false, Blk.cols mo [Col.int IntKind.i64 to]),
 (2, false, Blk.cols mg [Col.int IntKind.i64 tg, Col.int IntKind.i64 vg]),
 (1, false, Blk.cols mn [Col.int IntKind.i64 tn]),
 (0, false,
 Blk.cols mc [Col.str tc, Col.str vc, Col.int IntKind.i64 gc, Col.bool wc])]]) (13)))
 (False))
 (False))
 (False))
 (False))
 (False)))
 (test (true)
 (test (true)
 (Kret (PV.tf true) ([[(3, false, Blk.cols mo [Col.int IntKind.i64 to]),
 (2, false, Blk.cols mg [Col.int IntKind.i64 tg, Col.int IntKind.i64 vg]),
 (1, false, Blk.cols mn [Col.int IntKind.i64 tn]),
 (0, false,
 Blk.cols mc [Col.str tc, Col.str vc, Col.int IntKind.i64 gc, Col.bool wc])]]) (8))
 (Kret (PV.tf false) ([[(3, false, Blk.cols mo [Col.int IntKind.i64 to]),
 (2, false, Blk.cols mg [Col.int IntKind.i64 tg, Col.int IntKind.i64 vg]),
 (1, false, Blk.cols mn [Col.int IntKind.i64 tn]),
 (0, false,
 Blk.cols mc [Col.str tc, Col.str vc, Col.int IntKind.i64 gc, Col.bool wc])]]) (8)))
 (False)))
 (False))
 (test (true)
 (test (true)
 (Kret (PV.tf true) ([[(3, false, Blk.cols mo [Col.int IntKind.i64 to]),
 (2, false, Blk.cols mg [Col.int IntKind.i64 tg, Col.int IntKind.i64 vg]),
 (1, false, Blk.cols mn [Col.int IntKind.i64 tn]),
 (0, false,
 Blk.cols mc [Col.str tc, Col.str vc, Col.int IntKind.i64 gc, Col.bool wc])]]) (7))
 (Kret (PV.tf false) ([[(3, false, Blk.cols mo [Col.int IntKind.i64 to]),
 (2, false, Blk.cols mg [Col.int IntKind.i64 tg, Col.int IntKind.i64 vg]),
 (1, false, Blk.cols mn [Col.int IntKind.i64 tn]),
 (0, false,
 Blk.cols mc [Col.str tc, Col.str vc, Col.int IntKind.i64 gc, Col.bool wc])]]) (7)))
 (False)))
 (False)
set_option maxRecDepth 100000 in
theorem te3 (test : Bool → Prop → Prop → Prop) (Kst : KS) (Kret : KR) (ac nc mc : Nat) (tc : Nat → ByteArray) (vc : Nat → ByteArray) (gc : Nat → Int) (wc : Nat → Bool) (an nn mn : Nat) (tn : Nat → Int) (ag ng mg : Nat) (tg : Nat → Int) (vg : Nat → Int) (rc : Int) (ao no mo : Nat) (to : Nat → Int) : run test Try.env true (xL3 test) true 400 ⟨3, [.cd (mkFn Try.f3).body], argT 0 [.agg [.loose ⟨0, 4, ac, 0⟩ nc, .loose ⟨1, 1, an, 0⟩ nn, .loose ⟨2, 2, ag, 0⟩ ng, .int .i64 rc], .loose ⟨3, 1, ao, 0⟩ no], [[], [(0, (false, .cols mc [.str tc, .str vc, .int .i64 gc, .bool wc])), (1, (false, .cols mn [.int .i64 tn])), (2, (false, .cols mg [.int .i64 tg, .int .i64 vg])), (3, (false, .cols mo [.int .i64 to]))]], 4⟩ (proj 4 [] Kst Kret) =
  Te3 test Kst Kret ac nc mc tc vc gc wc an nn mn tn ag ng mg tg vg rc ao no mo to := by kernel_rfl
attribute [local irreducible] Int.subNatNat in
set_option maxRecDepth 100000 in
theorem be3 (ac nc mc : Nat) (tc : Nat → ByteArray) (vc : Nat → ByteArray) (gc : Nat → Int) (wc : Nat → Bool) (an nn mn : Nat) (tn : Nat → Int) (ag ng mg : Nat) (tg : Nat → Int) (vg : Nat → Int) (rc : Int) (ao no mo : Nat) (to : Nat → Int) (Kst : KS) (Kret : KR) (x : St3 ⊕ Rt3) (hS : HS 4 400 ((I3 ac nc mc tc vc gc wc an nn mn tn ag ng mg tg vg rc ao no mo to)) Kst x) (hR : HR 4 400 ((V3 ac nc mc tc vc gc wc an nn mn tn ag ng mg tg vg rc ao no mo to)) (fun r => [newL (4 + 1) ((N3 ac nc mc tc vc gc wc an nn mn tn ag ng mg tg vg rc ao no mo to) r) ++ [(0, (false, .cols mc [.str tc, .str vc, .int .i64 gc, .bool wc])), (1, (false, .cols mn [.int .i64 tn])), (2, (false, .cols mg [.int .i64 tg, .int .i64 vg])), (3, (false, .cols mo [.int .i64 to]))]]) Kret x) (h : (bif (decide (ac + nc ≤ mc ∧ an + nn ≤ mn ∧ ag + ng ≤ mg))
 then (bif (S.fewS nc (fun (j : Nat) => tc (j + ac)) (fun (j : Nat) => vc (j + ac)) nn (fun (j : Nat) => tn (j + an)) ng
 (S.ttE nc (fun (j : Nat) => tc (j + ac)) (fun (j : Nat) => vc (j + ac)) (fun (j : Nat) => gc (j + ac)) nn
 (fun (j : Nat) => tn (j + an)) ng (fun (j : Nat) => tg (j + ag)) (fun (j : Nat) => vg (j + ag)) rc))
 then (bif (decide ((↑no : Int) > (20 : Int)))
 then (some (.inr (true)))
 else (bif (decide (ao + no ≤ mo ∧ no ≤ 1000000))
 then (bif (decide (ac + nc ≤ mc ∧ an + nn ≤ mn ∧ ag + ng ≤ mg ∧ 0 + no ≤ no ∧ no ≤ 20))
 then (bif (decide (ac + nc ≤ mc ∧ an + nn ≤ mn ∧ ag + ng ≤ mg ∧ ao + no ≤ mo ∧ no ≤ 20))
 then (bif (S.ttE nc (fun (j : Nat) => tc (j + ac)) (fun (j : Nat) => vc (j + ac)) (fun (j : Nat) => gc (j + ac)) nn
 (fun (j : Nat) => tn (j + an)) ng (fun (j : Nat) => tg (j + ag)) (fun (j : Nat) => vg (j + ag)) rc ==
 S.ttE nc (fun (j : Nat) => tc (j + ac)) (fun (j : Nat) => vc (j + ac)) (fun (j : Nat) => gc (j + ac)) nn
 (fun (j : Nat) => tn (j + an)) ng (fun (j : Nat) => tg (j + ag)) (fun (j : Nat) => vg (j + ag)) rc)
 then (bif (Prod.fst
 (S.chkS
 (S.ttE nc (fun (j : Nat) => tc (j + ac)) (fun (j : Nat) => vc (j + ac)) (fun (j : Nat) => gc (j + ac)) nn
 (fun (j : Nat) => tn (j + an)) ng (fun (j : Nat) => tg (j + ag)) (fun (j : Nat) => vg (j + ag)) rc)
 (S.runS nc (fun (j : Nat) => gc (j + ac)) (fun (j : Nat) => wc (j + ac)) ng (fun (j : Nat) => tg (j + ag))
 (fun (j : Nat) => vg (j + ag)) rc (fun (j : Nat) => to (j + ao)) (0) no (0 : Int) (-1 : Int) rc
 (S.mkl nn fun (j : Nat) => tn (j + an)) [])) ==
 Prod.fst
 (S.chkS
 (S.ttE nc (fun (j : Nat) => tc (j + ac)) (fun (j : Nat) => vc (j + ac)) (fun (j : Nat) => gc (j + ac)) nn
 (fun (j : Nat) => tn (j + an)) ng (fun (j : Nat) => tg (j + ag)) (fun (j : Nat) => vg (j + ag)) rc)
 (S.runS nc (fun (j : Nat) => gc (j + ac)) (fun (j : Nat) => wc (j + ac)) ng (fun (j : Nat) => tg (j + ag))
 (fun (j : Nat) => vg (j + ag)) rc (fun (j : Nat) => to (j + ao)) (0) no (0 : Int) (-1 : Int) rc
 (S.mkl nn fun (j : Nat) => tn (j + an)) [])))
 then (bif (Prod.snd
 (S.chkS
 (S.ttE nc (fun (j : Nat) => tc (j + ac)) (fun (j : Nat) => vc (j + ac)) (fun (j : Nat) => gc (j + ac)) nn
 (fun (j : Nat) => tn (j + an)) ng (fun (j : Nat) => tg (j + ag)) (fun (j : Nat) => vg (j + ag)) rc)
 (S.runS nc (fun (j : Nat) => gc (j + ac)) (fun (j : Nat) => wc (j + ac)) ng (fun (j : Nat) => tg (j + ag))
 (fun (j : Nat) => vg (j + ag)) rc (fun (j : Nat) => to (j + ao)) (0) no (0 : Int) (-1 : Int) rc
 (S.mkl nn fun (j : Nat) => tn (j + an)) [])) ==
 Prod.snd
 (S.chkS
 (S.ttE nc (fun (j : Nat) => tc (j + ac)) (fun (j : Nat) => vc (j + ac)) (fun (j : Nat) => gc (j + ac)) nn
 (fun (j : Nat) => tn (j + an)) ng (fun (j : Nat) => tg (j + ag)) (fun (j : Nat) => vg (j + ag)) rc)
 (S.runS nc (fun (j : Nat) => gc (j + ac)) (fun (j : Nat) => wc (j + ac)) ng (fun (j : Nat) => tg (j + ag))
 (fun (j : Nat) => vg (j + ag)) rc (fun (j : Nat) => to (j + ao)) (0) no (0 : Int) (-1 : Int) rc
 (S.mkl nn fun (j : Nat) => tn (j + an)) [])))
 then (some (.inr (true)))
 else (some (.inr (false))))
 else (some (.inr (false))))
 else (some (.inr (false))))
 else (none))
 else (none))
 else (none)))
 else (some (.inr (true))))
 else (none) : Option (St3 ⊕ Rt3)) = some x) : Te3 cond Kst Kret ac nc mc tc vc gc wc an nn mn tn ag ng mg tg vg rc ao no mo to := by
  unfold Te3
  exact cond_yes rfl (cond_yes rfl (bif_split h
   (fun c0 h => bif_split h
   (fun c1 h => bif_split h
   (fun c2 h => cond_yes rfl (cond_yes rfl (ret_at hR _ h (fun n => n) rfl rfl rfl (rn_bool_tf rfl) rfl (entl_bor (use_lo rfl) rfl rfl (entl_bor (use_lo rfl) rfl rfl (entl_bor (use_lo rfl) rfl rfl (entl_bor (use_lo rfl) rfl rfl entl_nil)))))))
   (fun c2 h => bif_split h
   (fun c3 h => bif_split h
   (fun c4 h => bif_split h
   (fun c5 h => cond_yes c0 (cond_yes c0 (bif_split h
   (fun c6 h => bif_split h
   (fun c7 h => bif_split h
   (fun c8 h => ret_at hR _ h (fun n => n) rfl rfl rfl (rn_bool_tf rfl) rfl (entl_bor (use_lo rfl) rfl rfl (entl_bor (use_lo rfl) rfl rfl (entl_bor (use_lo rfl) rfl rfl (entl_bor (use_lo rfl) rfl rfl entl_nil)))))
   (fun c8 h => ret_at hR _ h (fun n => n) rfl rfl rfl (rn_bool_tf rfl) rfl (entl_bor (use_lo rfl) rfl rfl (entl_bor (use_lo rfl) rfl rfl (entl_bor (use_lo rfl) rfl rfl (entl_bor (use_lo rfl) rfl rfl entl_nil))))))
   (fun c7 h => ret_at hR _ h (fun n => n) rfl rfl rfl (rn_bool_tf rfl) rfl (entl_bor (use_lo rfl) rfl rfl (entl_bor (use_lo rfl) rfl rfl (entl_bor (use_lo rfl) rfl rfl (entl_bor (use_lo rfl) rfl rfl entl_nil))))))
   (fun c6 h => ret_at hR _ h (fun n => n) rfl rfl rfl (rn_bool_tf rfl) rfl (entl_bor (use_lo rfl) rfl rfl (entl_bor (use_lo rfl) rfl rfl (entl_bor (use_lo rfl) rfl rfl (entl_bor (use_lo rfl) rfl rfl entl_nil))))))))
   (fun c5 h => no_some h))
   (fun c4 h => no_some h))
   (fun c3 h => no_some h)))
   (fun c1 h => cond_yes rfl (cond_yes rfl (ret_at hR _ h (fun n => n) rfl rfl rfl (rn_bool_tf rfl) rfl (entl_bor (use_lo rfl) rfl rfl (entl_bor (use_lo rfl) rfl rfl (entl_bor (use_lo rfl) rfl rfl (entl_bor (use_lo rfl) rfl rfl entl_nil))))))))
   (fun c0 h => no_some h)))
theorem a3 (ac nc mc : Nat) (tc : Nat → ByteArray) (vc : Nat → ByteArray) (gc : Nat → Int) (wc : Nat → Bool) (an nn mn : Nat) (tn : Nat → Int) (ag ng mg : Nat) (tg : Nat → Int) (vg : Nat → Int) (rc : Int) (ao no mo : Nat) (to : Nat → Int) {r : Rt3} (h : Goes ((q3 ac nc mc tc vc gc wc an nn mn tn ag ng mg tg vg rc ao no mo to)) ((p3 ac nc mc tc vc gc wc an nn mn tn ag ng mg tg vg rc ao no mo to)) r) : CallR Try.prog 3 [.agg [.loose ⟨0, 4, ac, 0⟩ nc, .loose ⟨1, 1, an, 0⟩ nn, .loose ⟨2, 2, ag, 0⟩ ng, .int .i64 rc], .loose ⟨3, 1, ao, 0⟩ no] [[(0, (false, .cols mc [.str tc, .str vc, .int .i64 gc, .bool wc])), (1, (false, .cols mn [.int .i64 tn])), (2, (false, .cols mg [.int .i64 tg, .int .i64 vg])), (3, (false, .cols mo [.int .i64 to]))]] 4 ((V3 ac nc mc tc vc gc wc an nn mn tn ag ng mg tg vg rc ao no mo to) r) ((fun r => [newL (4 + 1) ((N3 ac nc mc tc vc gc wc an nn mn tn ag ng mg tg vg rc ao no mo to) r) ++ [(0, (false, .cols mc [.str tc, .str vc, .int .i64 gc, .bool wc])), (1, (false, .cols mn [.int .i64 tn])), (2, (false, .cols mg [.int .i64 tg, .int .i64 vg])), (3, (false, .cols mo [.int .i64 to]))]]) r) 400 ∧ ∃ F, Try.prog.funcs[3]? = some F ∧ F.body.isSome = true ∧ (F.name == "runtime.NumGoroutine") = false := by
  refine dec_calls (f := 3) (lo := 4) (hi := 400) (H := [[(0, (false, .cols mc [.str tc, .str vc, .int .i64 gc, .bool wc])), (1, (false, .cols mn [.int .i64 tn])), (2, (false, .cols mg [.int .i64 tg, .int .i64 vg])), (3, (false, .cols mo [.int .i64 to]))]]) (args := [.agg [.loose ⟨0, 4, ac, 0⟩ nc, .loose ⟨1, 1, an, 0⟩ nn, .loose ⟨2, 2, ag, 0⟩ ng, .int .i64 rc], .loose ⟨3, 1, ao, 0⟩ no]) Try.envOk Try.mixed xL3_ok ((I3 ac nc mc tc vc gc wc an nn mn tn ag ng mg tg vg rc ao no mo to)) ((V3 ac nc mc tc vc gc wc an nn mn tn ag ng mg tg vg rc ao no mo to)) (fun r => [newL (4 + 1) ((N3 ac nc mc tc vc gc wc an nn mn tn ag ng mg tg vg rc ao no mo to) r) ++ [(0, (false, .cols mc [.str tc, .str vc, .int .i64 gc, .bool wc])), (1, (false, .cols mn [.int .i64 tn])), (2, (false, .cols mg [.int .i64 tg, .int .i64 vg])), (3, (false, .cols mo [.int .i64 to]))]]) (fn := mkFn Try.f3) (ts := []) (n := 400) rfl (by decide) (by simp) (names_of rfl) ?_ ?_ ?_ h
  · intro s; exact s.elim
  · intro Kst Kret x hS hR h
    exact Holds.eq (te3 cond Kst Kret ac nc mc tc vc gc wc an nn mn tn ag ng mg tg vg rc ao no mo to) (be3 ac nc mc tc vc gc wc an nn mn tn ag ng mg tg vg rc ao no mo to Kst Kret x hS hR h)
  · intro Kst Kret x hS hR s h; exact s.elim
noncomputable def k3 : Con := ⟨3, [.agg [.list [.str, .str, .int .i64, .bool], .list [.int .i64], .list [.int .i64, .int .i64], .plain (.int .i64)], .one (.list [.int .i64])], fun (x : ((Nat × Nat × Nat × (Nat → ByteArray) × (Nat → ByteArray) × (Nat → Int) × (Nat → Bool) × Unit) × (Nat × Nat × Nat × (Nat → Int) × Unit) × (Nat × Nat × Nat × (Nat → Int) × (Nat → Int) × Unit) × Int × Unit) × (Nat × Nat × Nat × (Nat → Int) × Unit) × Unit) => (fun (ac nc mc : Nat) (tc : Nat → ByteArray) (vc : Nat → ByteArray) (gc : Nat → Int) (wc : Nat → Bool) (an nn mn : Nat) (tn : Nat → Int) (ag ng mg : Nat) (tg : Nat → Int) (vg : Nat → Int) (rc : Int) (ao no mo : Nat) (to : Nat → Int) => decide (ac + nc ≤ mc ∧ an + nn ≤ mn ∧ ag + ng ≤ mg ∧ ao + no ≤ mo)) x.1.1.1 x.1.1.2.1 x.1.1.2.2.1 x.1.1.2.2.2.1 x.1.1.2.2.2.2.1 x.1.1.2.2.2.2.2.1 x.1.1.2.2.2.2.2.2.1 x.1.2.1.1 x.1.2.1.2.1 x.1.2.1.2.2.1 x.1.2.1.2.2.2.1 x.1.2.2.1.1 x.1.2.2.1.2.1 x.1.2.2.1.2.2.1 x.1.2.2.1.2.2.2.1 x.1.2.2.1.2.2.2.2.1 x.1.2.2.2.1 x.2.1.1 x.2.1.2.1 x.2.1.2.2.1 x.2.1.2.2.2.1, fun (x : ((Nat × Nat × Nat × (Nat → ByteArray) × (Nat → ByteArray) × (Nat → Int) × (Nat → Bool) × Unit) × (Nat × Nat × Nat × (Nat → Int) × Unit) × (Nat × Nat × Nat × (Nat → Int) × (Nat → Int) × Unit) × Int × Unit) × (Nat × Nat × Nat × (Nat → Int) × Unit) × Unit) => (fun (ac nc mc : Nat) (tc : Nat → ByteArray) (vc : Nat → ByteArray) (gc : Nat → Int) (wc : Nat → Bool) (an nn mn : Nat) (tn : Nat → Int) (ag ng mg : Nat) (tg : Nat → Int) (vg : Nat → Int) (rc : Int) (ao no mo : Nat) (to : Nat → Int) => (V3 ac nc mc tc vc gc wc an nn mn tn ag ng mg tg vg rc ao no mo to) (true)) x.1.1.1 x.1.1.2.1 x.1.1.2.2.1 x.1.1.2.2.2.1 x.1.1.2.2.2.2.1 x.1.1.2.2.2.2.2.1 x.1.1.2.2.2.2.2.2.1 x.1.2.1.1 x.1.2.1.2.1 x.1.2.1.2.2.1 x.1.2.1.2.2.2.1 x.1.2.2.1.1 x.1.2.2.1.2.1 x.1.2.2.1.2.2.1 x.1.2.2.1.2.2.2.1 x.1.2.2.1.2.2.2.2.1 x.1.2.2.2.1 x.2.1.1 x.2.1.2.1 x.2.1.2.2.1 x.2.1.2.2.2.1, fun (x : ((Nat × Nat × Nat × (Nat → ByteArray) × (Nat → ByteArray) × (Nat → Int) × (Nat → Bool) × Unit) × (Nat × Nat × Nat × (Nat → Int) × Unit) × (Nat × Nat × Nat × (Nat → Int) × (Nat → Int) × Unit) × Int × Unit) × (Nat × Nat × Nat × (Nat → Int) × Unit) × Unit) => (fun (ac nc mc : Nat) (tc : Nat → ByteArray) (vc : Nat → ByteArray) (gc : Nat → Int) (wc : Nat → Bool) (an nn mn : Nat) (tn : Nat → Int) (ag ng mg : Nat) (tg : Nat → Int) (vg : Nat → Int) (rc : Int) (ao no mo : Nat) (to : Nat → Int) => (N3 ac nc mc tc vc gc wc an nn mn tn ag ng mg tg vg rc ao no mo to) (true)) x.1.1.1 x.1.1.2.1 x.1.1.2.2.1 x.1.1.2.2.2.1 x.1.1.2.2.2.2.1 x.1.1.2.2.2.2.2.1 x.1.1.2.2.2.2.2.2.1 x.1.2.1.1 x.1.2.1.2.1 x.1.2.1.2.2.1 x.1.2.1.2.2.2.1 x.1.2.2.1.1 x.1.2.2.1.2.1 x.1.2.2.1.2.2.1 x.1.2.2.1.2.2.2.1 x.1.2.2.1.2.2.2.2.1 x.1.2.2.2.1 x.2.1.1 x.2.1.2.1 x.2.1.2.2.1 x.2.1.2.2.2.1, fun _ _ => .dead⟩
theorem s3 (ac nc mc : Nat) (tc : Nat → ByteArray) (vc : Nat → ByteArray) (gc : Nat → Int) (wc : Nat → Bool) (an nn mn : Nat) (tn : Nat → Int) (ag ng mg : Nat) (tg : Nat → Int) (vg : Nat → Int) (rc : Int) (ao no mo : Nat) (to : Nat → Int) (hp : ac + nc ≤ mc ∧ an + nn ≤ mn ∧ ag + ng ≤ mg ∧ ao + no ≤ mo) : Goes ((q3 ac nc mc tc vc gc wc an nn mn tn ag ng mg tg vg rc ao no mo to)) ((p3 ac nc mc tc vc gc wc an nn mn tn ag ng mg tg vg rc ao no mo to)) (true) := by
  obtain ⟨h1, h2, h3, h4⟩ := hp
  unfold p3
  generalize S.chkS (S.ttE nc (fun j => tc (j + ac)) (fun j => vc (j + ac)) (fun j => gc (j + ac)) nn (fun j => tn (j + an)) ng (fun j => tg (j + ag)) (fun j => vg (j + ag)) rc) (S.runS nc (fun j => gc (j + ac)) (fun j => wc (j + ac)) ng (fun j => tg (j + ag)) (fun j => vg (j + ag)) rc (fun j => to (j + ao)) 0 no 0 (-1) rc (S.mkl nn (fun j => tn (j + an))) []) = r at *
  generalize S.ttE nc (fun j => tc (j + ac)) (fun j => vc (j + ac)) (fun j => gc (j + ac)) nn (fun j => tn (j + an)) ng (fun j => tg (j + ag)) (fun j => vg (j + ag)) rc = e at *
  generalize S.fewS nc (fun j => tc (j + ac)) (fun j => vc (j + ac)) nn (fun j => tn (j + an)) ng e = w at *
  refine goes_ok (decide_eq_true ⟨h1, h2, h3⟩) ?_
  cases w
  · exact goes_no rfl (goes_inr.mpr rfl)
  · refine goes_ok rfl ?_
    by_cases hn : no ≤ 20
    · refine goes_no (decide_eq_false (by omega)) ?_
      refine goes_ok (decide_eq_true (by omega)) ?_
      refine goes_ok (decide_eq_true (by omega)) ?_
      refine goes_ok (decide_eq_true (by omega)) ?_
      exact goes_ok (beq_self_eq_true _) (goes_ok (beq_self_eq_true _) (goes_ok (beq_self_eq_true _) (goes_inr.mpr rfl)))
    · exact goes_ok (decide_eq_true (by omega)) (goes_inr.mpr rfl)

theorem k3_ok : k3.ok Try.prog := by
  intro x hx
  obtain ⟨⟨⟨ac, nc, mc, tc, vc, gc, wc, _⟩, ⟨an, nn, mn, tn, _⟩, ⟨ag, ng, mg, tg, vg, _⟩, rc, _⟩, ⟨ao, no, mo, to, _⟩, _⟩ := x
  obtain ⟨h1, h2⟩ := a3 ac nc mc tc vc gc wc an nn mn tn ag ng mg tg vg rc ao no mo to (s3 ac nc mc tc vc gc wc an nn mn tn ag ng mg tg vg rc ao no mo to (of_dec hx rfl))
  exact ⟨⟨400, (by decide : 4 + 1 + 0 ≤ 400), h1⟩, h2⟩

end Go.Ev
