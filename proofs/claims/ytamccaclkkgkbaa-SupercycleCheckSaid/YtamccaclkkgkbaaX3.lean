/-
  The reference's Check.
-/
import Derived.Test.YtamccaclkkgkbaaX2
namespace Go.Ev
open Go.Proofs
set_option linter.unusedVariables false
set_option linter.unusedSimpArgs false
set_option maxRecDepth 100000
abbrev St13 := Empty
abbrev Rt13 := Int × Int
noncomputable def V13 (ac nc mc : Nat) (tc : Nat → ByteArray) (vc : Nat → ByteArray) (gc : Nat → Int) (wc : Nat → Bool) (an nn mn : Nat) (tn : Nat → Int) (ag ng mg : Nat) (tg : Nat → Int) (vg : Nat → Int) (rc : Int) (ao no mo : Nat) (to : Nat → Int) (r : Rt13) : PV := PV.tup [PV.int IntKind.i64 r.1, PV.int IntKind.i64 r.2]
noncomputable def N13 (ac nc mc : Nat) (tc : Nat → ByteArray) (vc : Nat → ByteArray) (gc : Nat → Int) (wc : Nat → Bool) (an nn mn : Nat) (tn : Nat → Int) (ag ng mg : Nat) (tg : Nat → Int) (vg : Nat → Int) (rc : Int) (ao no mo : Nat) (to : Nat → Int) (r : Rt13) : List Blk := []
noncomputable def I13 (ac nc mc : Nat) (tc : Nat → ByteArray) (vc : Nat → ByteArray) (gc : Nat → Int) (wc : Nat → Bool) (an nn mn : Nat) (tn : Nat → Int) (ag ng mg : Nat) (tg : Nat → Int) (vg : Nat → Int) (rc : Int) (ao no mo : Nat) (to : Nat → Int) : St13 → Hd := fun s => s.elim
noncomputable def q13 (ac nc mc : Nat) (tc : Nat → ByteArray) (vc : Nat → ByteArray) (gc : Nat → Int) (wc : Nat → Bool) (an nn mn : Nat) (tn : Nat → Int) (ag ng mg : Nat) (tg : Nat → Int) (vg : Nat → Int) (rc : Int) (ao no mo : Nat) (to : Nat → Int) : St13 → Option (St13 ⊕ Rt13) := fun s => s.elim
noncomputable def p13 (ac nc mc : Nat) (tc : Nat → ByteArray) (vc : Nat → ByteArray) (gc : Nat → Int) (wc : Nat → Bool) (an nn mn : Nat) (tn : Nat → Int) (ag ng mg : Nat) (tg : Nat → Int) (vg : Nat → Int) (rc : Int) (ao no mo : Nat) (to : Nat → Int) : Option (St13 ⊕ Rt13) := bif (decide (ac + nc ≤ mc ∧ an + nn ≤ mn ∧ ag + ng ≤ mg))
 then (bif (S.ttE nc (fun (j : Nat) => tc (j + ac)) (fun (j : Nat) => vc (j + ac)) (fun (j : Nat) => gc (j + ac)) nn
 (fun (j : Nat) => tn (j + an)) ng (fun (j : Nat) => tg (j + ag)) (fun (j : Nat) => vg (j + ag)) rc !=
 (0 : Int))
 then (some (.inr ((0 : Int), S.ttE nc (fun (j : Nat) => tc (j + ac)) (fun (j : Nat) => vc (j + ac)) (fun (j : Nat) => gc (j + ac)) nn
 (fun (j : Nat) => tn (j + an)) ng (fun (j : Nat) => tg (j + ag)) (fun (j : Nat) => vg (j + ag)) rc)))
 else (bif (decide
 ((ac + nc ≤ mc ∧ an + nn ≤ mn ∧ ag + ng ≤ mg ∧ ao + no ≤ mo ∧ no ≤ 20) ∧
 S.ttE nc (fun (j : Nat) => tc (j + ac)) (fun (j : Nat) => vc (j + ac)) (fun (j : Nat) => gc (j + ac)) nn
 (fun (j : Nat) => tn (j + an)) ng (fun (j : Nat) => tg (j + ag)) (fun (j : Nat) => vg (j + ag)) rc =
 (0 : Int)))
 then (bif (Prod.fst
 (Prod.snd
 (S.runS nc (fun (j : Nat) => gc (j + ac)) (fun (j : Nat) => wc (j + ac)) ng (fun (j : Nat) => tg (j + ag))
 (fun (j : Nat) => vg (j + ag)) rc (fun (j : Nat) => to (j + ao)) (0) no (0 : Int) (-1 : Int) rc
 (S.mkl nn fun (j : Nat) => tn (j + an)) [])))
 then (bif (decide
 ((ac + nc ≤ mc ∧ an + nn ≤ mn ∧ ag + ng ≤ mg ∧ ao + no ≤ mo ∧ no ≤ 20) ∧
 S.ttE nc (fun (j : Nat) => tc (j + ac)) (fun (j : Nat) => vc (j + ac)) (fun (j : Nat) => gc (j + ac)) nn
 (fun (j : Nat) => tn (j + an)) ng (fun (j : Nat) => tg (j + ag)) (fun (j : Nat) => vg (j + ag)) rc =
 (0 : Int) ∧
 Prod.fst
 (Prod.snd
 (S.runS nc (fun (j : Nat) => gc (j + ac)) (fun (j : Nat) => wc (j + ac)) ng
 (fun (j : Nat) => tg (j + ag)) (fun (j : Nat) => vg (j + ag)) rc (fun (j : Nat) => to (j + ao))
 (0) no (0 : Int) (-1 : Int) rc (S.mkl nn fun (j : Nat) => tn (j + an)) [])) =
 true))
 then (some (.inr (Prod.fst
 (S.stS (fun (j : Nat) => gc (j + ac)) (fun (j : Nat) => wc (j + ac)) rc (fun (j : Nat) => to (j + ao))
 (0) no (0 : Int) (-1 : Int) []), (0 : Int))))
 else (none))
 else (some (.inr ((0 : Int), (1 : Int)))))
 else (none)))
 else (none)
noncomputable def Te13 (test : Bool → Prop → Prop → Prop) (Kst : KS) (Kret : KR) (ac nc mc : Nat) (tc : Nat → ByteArray) (vc : Nat → ByteArray) (gc : Nat → Int) (wc : Nat → Bool) (an nn mn : Nat) (tn : Nat → Int) (ag ng mg : Nat) (tg : Nat → Int) (vg : Nat → Int) (rc : Int) (ao no mo : Nat) (to : Nat → Int) : Prop :=
  test (decide (ac + nc ≤ mc ∧ an + nn ≤ mn ∧ ag + ng ≤ mg))
 (test (S.ttE nc (fun (j : Nat) => tc (j + ac)) (fun (j : Nat) => vc (j + ac)) (fun (j : Nat) => gc (j + ac)) nn
 (fun (j : Nat) => tn (j + an)) ng (fun (j : Nat) => tg (j + ag)) (fun (j : Nat) => vg (j + ag)) rc !=
 (0 : Int))
 (Kret (PV.tup
 [PV.int IntKind.i64 (0 : Int),
 PV.int IntKind.i64
 (S.ttE nc (fun (j : Nat) => tc (j + ac)) (fun (j : Nat) => vc (j + ac)) (fun (j : Nat) => gc (j + ac)) nn
 (fun (j : Nat) => tn (j + an)) ng (fun (j : Nat) => tg (j + ag)) (fun (j : Nat) => vg (j + ag)) rc)]) ([[(3, false, Blk.cols mo [Col.int IntKind.i64 to]),
 (2, false, Blk.cols mg [Col.int IntKind.i64 tg, Col.int IntKind.i64 vg]),
 (1, false, Blk.cols mn [Col.int IntKind.i64 tn]),
 (0, false,
 Blk.cols mc [Col.str tc, Col.str vc, Col.int IntKind.i64 gc, Col.bool wc])]]) (6))
 (test (decide
 ((ac + nc ≤ mc ∧ an + nn ≤ mn ∧ ag + ng ≤ mg ∧ ao + no ≤ mo ∧ no ≤ 20) ∧
 S.ttE nc (fun (j : Nat) => tc (j + ac)) (fun (j : Nat) => vc (j + ac)) (fun (j : Nat) => gc (j + ac)) nn
 (fun (j : Nat) => tn (j + an)) ng (fun (j : Nat) => tg (j + ag)) (fun (j : Nat) => vg (j + ag)) rc =
 (0 : Int)))
 (test (Prod.fst
 (Prod.snd
 (S.runS nc (fun (j : Nat) => gc (j + ac)) (fun (j : Nat) => wc (j + ac)) ng (fun (j : Nat) => tg (j + ag))
 (fun (j : Nat) => vg (j + ag)) rc (fun (j : Nat) => to (j + ao)) (0) no (0 : Int) (-1 : Int) rc
 (S.mkl nn fun (j : Nat) => tn (j + an)) [])))
 (test (decide
 ((ac + nc ≤ mc ∧ an + nn ≤ mn ∧ ag + ng ≤ mg ∧ ao + no ≤ mo ∧ no ≤ 20) ∧
 S.ttE nc (fun (j : Nat) => tc (j + ac)) (fun (j : Nat) => vc (j + ac)) (fun (j : Nat) => gc (j + ac)) nn
 (fun (j : Nat) => tn (j + an)) ng (fun (j : Nat) => tg (j + ag)) (fun (j : Nat) => vg (j + ag)) rc =
 (0 : Int) ∧
 Prod.fst
 (Prod.snd
 (S.runS nc (fun (j : Nat) => gc (j + ac)) (fun (j : Nat) => wc (j + ac)) ng
 (fun (j : Nat) => tg (j + ag)) (fun (j : Nat) => vg (j + ag)) rc (fun (j : Nat) => to (j + ao))
 (0) no (0 : Int) (-1 : Int) rc (S.mkl nn fun (j : Nat) => tn (j + an)) [])) =
 true))
 (Kret (PV.tup
 [PV.int IntKind.i64
 (Prod.fst
 (S.stS (fun (j : Nat) => gc (j + ac)) (fun (j : Nat) => wc (j + ac)) rc (fun (j : Nat) => to (j + ao))
 (0) no (0 : Int) (-1 : Int) [])),
 PV.int IntKind.i64 (0 : Int)]) ([[(3, false, Blk.cols mo [Col.int IntKind.i64 to]),
 (2, false, Blk.cols mg [Col.int IntKind.i64 tg, Col.int IntKind.i64 vg]),
 (1, false, Blk.cols mn [Col.int IntKind.i64 tn]),
 (0, false,
 Blk.cols mc [Col.str tc, Col.str vc, Col.int IntKind.i64 gc, Col.bool wc])]]) (9))
 (False))
 (Kret (PV.tup [PV.int IntKind.i64 (0 : Int), PV.int IntKind.i64 (1 : Int)]) ([[(3, false, Blk.cols mo [Col.int IntKind.i64 to]),
 (2, false, Blk.cols mg [Col.int IntKind.i64 tg, Col.int IntKind.i64 vg]),
 (1, false, Blk.cols mn [Col.int IntKind.i64 tn]),
 (0, false,
 Blk.cols mc [Col.str tc, Col.str vc, Col.int IntKind.i64 gc, Col.bool wc])]]) (7)))
 (False)))
 (False)
set_option maxRecDepth 100000 in
theorem te13 (test : Bool → Prop → Prop → Prop) (Kst : KS) (Kret : KR) (ac nc mc : Nat) (tc : Nat → ByteArray) (vc : Nat → ByteArray) (gc : Nat → Int) (wc : Nat → Bool) (an nn mn : Nat) (tn : Nat → Int) (ag ng mg : Nat) (tg : Nat → Int) (vg : Nat → Int) (rc : Int) (ao no mo : Nat) (to : Nat → Int) : run test Try.env true (xE test) true 400 ⟨13, [.cd (mkFn Try.f13).body], argT 0 [.agg [.loose ⟨0, 4, ac, 0⟩ nc, .loose ⟨1, 1, an, 0⟩ nn, .loose ⟨2, 2, ag, 0⟩ ng, .int .i64 rc], .loose ⟨3, 1, ao, 0⟩ no], [[], [(0, (false, .cols mc [.str tc, .str vc, .int .i64 gc, .bool wc])), (1, (false, .cols mn [.int .i64 tn])), (2, (false, .cols mg [.int .i64 tg, .int .i64 vg])), (3, (false, .cols mo [.int .i64 to]))]], 4⟩ (proj 4 [] Kst Kret) =
  Te13 test Kst Kret ac nc mc tc vc gc wc an nn mn tn ag ng mg tg vg rc ao no mo to := by kernel_rfl
attribute [local irreducible] Int.subNatNat in
set_option maxRecDepth 100000 in
theorem be13 (ac nc mc : Nat) (tc : Nat → ByteArray) (vc : Nat → ByteArray) (gc : Nat → Int) (wc : Nat → Bool) (an nn mn : Nat) (tn : Nat → Int) (ag ng mg : Nat) (tg : Nat → Int) (vg : Nat → Int) (rc : Int) (ao no mo : Nat) (to : Nat → Int) (Kst : KS) (Kret : KR) (x : St13 ⊕ Rt13) (hS : HS 4 400 ((I13 ac nc mc tc vc gc wc an nn mn tn ag ng mg tg vg rc ao no mo to)) Kst x) (hR : HR 4 400 ((V13 ac nc mc tc vc gc wc an nn mn tn ag ng mg tg vg rc ao no mo to)) (fun r => [newL (4 + 1) ((N13 ac nc mc tc vc gc wc an nn mn tn ag ng mg tg vg rc ao no mo to) r) ++ [(0, (false, .cols mc [.str tc, .str vc, .int .i64 gc, .bool wc])), (1, (false, .cols mn [.int .i64 tn])), (2, (false, .cols mg [.int .i64 tg, .int .i64 vg])), (3, (false, .cols mo [.int .i64 to]))]]) Kret x) (h : (bif (decide (ac + nc ≤ mc ∧ an + nn ≤ mn ∧ ag + ng ≤ mg))
 then (bif (S.ttE nc (fun (j : Nat) => tc (j + ac)) (fun (j : Nat) => vc (j + ac)) (fun (j : Nat) => gc (j + ac)) nn
 (fun (j : Nat) => tn (j + an)) ng (fun (j : Nat) => tg (j + ag)) (fun (j : Nat) => vg (j + ag)) rc !=
 (0 : Int))
 then (some (.inr ((0 : Int), S.ttE nc (fun (j : Nat) => tc (j + ac)) (fun (j : Nat) => vc (j + ac)) (fun (j : Nat) => gc (j + ac)) nn
 (fun (j : Nat) => tn (j + an)) ng (fun (j : Nat) => tg (j + ag)) (fun (j : Nat) => vg (j + ag)) rc)))
 else (bif (decide
 ((ac + nc ≤ mc ∧ an + nn ≤ mn ∧ ag + ng ≤ mg ∧ ao + no ≤ mo ∧ no ≤ 20) ∧
 S.ttE nc (fun (j : Nat) => tc (j + ac)) (fun (j : Nat) => vc (j + ac)) (fun (j : Nat) => gc (j + ac)) nn
 (fun (j : Nat) => tn (j + an)) ng (fun (j : Nat) => tg (j + ag)) (fun (j : Nat) => vg (j + ag)) rc =
 (0 : Int)))
 then (bif (Prod.fst
 (Prod.snd
 (S.runS nc (fun (j : Nat) => gc (j + ac)) (fun (j : Nat) => wc (j + ac)) ng (fun (j : Nat) => tg (j + ag))
 (fun (j : Nat) => vg (j + ag)) rc (fun (j : Nat) => to (j + ao)) (0) no (0 : Int) (-1 : Int) rc
 (S.mkl nn fun (j : Nat) => tn (j + an)) [])))
 then (bif (decide
 ((ac + nc ≤ mc ∧ an + nn ≤ mn ∧ ag + ng ≤ mg ∧ ao + no ≤ mo ∧ no ≤ 20) ∧
 S.ttE nc (fun (j : Nat) => tc (j + ac)) (fun (j : Nat) => vc (j + ac)) (fun (j : Nat) => gc (j + ac)) nn
 (fun (j : Nat) => tn (j + an)) ng (fun (j : Nat) => tg (j + ag)) (fun (j : Nat) => vg (j + ag)) rc =
 (0 : Int) ∧
 Prod.fst
 (Prod.snd
 (S.runS nc (fun (j : Nat) => gc (j + ac)) (fun (j : Nat) => wc (j + ac)) ng
 (fun (j : Nat) => tg (j + ag)) (fun (j : Nat) => vg (j + ag)) rc (fun (j : Nat) => to (j + ao))
 (0) no (0 : Int) (-1 : Int) rc (S.mkl nn fun (j : Nat) => tn (j + an)) [])) =
 true))
 then (some (.inr (Prod.fst
 (S.stS (fun (j : Nat) => gc (j + ac)) (fun (j : Nat) => wc (j + ac)) rc (fun (j : Nat) => to (j + ao))
 (0) no (0 : Int) (-1 : Int) []), (0 : Int))))
 else (none))
 else (some (.inr ((0 : Int), (1 : Int)))))
 else (none)))
 else (none) : Option (St13 ⊕ Rt13)) = some x) : Te13 cond Kst Kret ac nc mc tc vc gc wc an nn mn tn ag ng mg tg vg rc ao no mo to := by
  unfold Te13
  exact bif_split h
   (fun c0 h => bif_split h
   (fun c1 h => ret_at hR _ h (fun n => n) rfl rfl rfl (rn_tup ⟨(rn_int rfl), (rn_int rfl), trivial⟩) rfl (entl_bor (use_lo rfl) rfl rfl (entl_bor (use_lo rfl) rfl rfl (entl_bor (use_lo rfl) rfl rfl (entl_bor (use_lo rfl) rfl rfl entl_nil)))))
   (fun c1 h => bif_split h
   (fun c2 h => bif_split h
   (fun c3 h => bif_split h
   (fun c4 h => ret_at hR _ h (fun n => n) rfl rfl rfl (rn_tup ⟨(rn_int rfl), (rn_int rfl), trivial⟩) rfl (entl_bor (use_lo rfl) rfl rfl (entl_bor (use_lo rfl) rfl rfl (entl_bor (use_lo rfl) rfl rfl (entl_bor (use_lo rfl) rfl rfl entl_nil)))))
   (fun c4 h => no_some h))
   (fun c3 h => ret_at hR _ h (fun n => n) rfl rfl rfl (rn_tup ⟨(rn_int rfl), (rn_int rfl), trivial⟩) rfl (entl_bor (use_lo rfl) rfl rfl (entl_bor (use_lo rfl) rfl rfl (entl_bor (use_lo rfl) rfl rfl (entl_bor (use_lo rfl) rfl rfl entl_nil))))))
   (fun c2 h => no_some h)))
   (fun c0 h => no_some h)
theorem a13 (ac nc mc : Nat) (tc : Nat → ByteArray) (vc : Nat → ByteArray) (gc : Nat → Int) (wc : Nat → Bool) (an nn mn : Nat) (tn : Nat → Int) (ag ng mg : Nat) (tg : Nat → Int) (vg : Nat → Int) (rc : Int) (ao no mo : Nat) (to : Nat → Int) {r : Rt13} (h : Goes ((q13 ac nc mc tc vc gc wc an nn mn tn ag ng mg tg vg rc ao no mo to)) ((p13 ac nc mc tc vc gc wc an nn mn tn ag ng mg tg vg rc ao no mo to)) r) : CallR Try.prog 13 [.agg [.loose ⟨0, 4, ac, 0⟩ nc, .loose ⟨1, 1, an, 0⟩ nn, .loose ⟨2, 2, ag, 0⟩ ng, .int .i64 rc], .loose ⟨3, 1, ao, 0⟩ no] [[(0, (false, .cols mc [.str tc, .str vc, .int .i64 gc, .bool wc])), (1, (false, .cols mn [.int .i64 tn])), (2, (false, .cols mg [.int .i64 tg, .int .i64 vg])), (3, (false, .cols mo [.int .i64 to]))]] 4 ((V13 ac nc mc tc vc gc wc an nn mn tn ag ng mg tg vg rc ao no mo to) r) ((fun r => [newL (4 + 1) ((N13 ac nc mc tc vc gc wc an nn mn tn ag ng mg tg vg rc ao no mo to) r) ++ [(0, (false, .cols mc [.str tc, .str vc, .int .i64 gc, .bool wc])), (1, (false, .cols mn [.int .i64 tn])), (2, (false, .cols mg [.int .i64 tg, .int .i64 vg])), (3, (false, .cols mo [.int .i64 to]))]]) r) 400 ∧ ∃ F, Try.prog.funcs[13]? = some F ∧ F.body.isSome = true ∧ (F.name == "runtime.NumGoroutine") = false := by
  refine dec_calls (f := 13) (lo := 4) (hi := 400) (H := [[(0, (false, .cols mc [.str tc, .str vc, .int .i64 gc, .bool wc])), (1, (false, .cols mn [.int .i64 tn])), (2, (false, .cols mg [.int .i64 tg, .int .i64 vg])), (3, (false, .cols mo [.int .i64 to]))]]) (args := [.agg [.loose ⟨0, 4, ac, 0⟩ nc, .loose ⟨1, 1, an, 0⟩ nn, .loose ⟨2, 2, ag, 0⟩ ng, .int .i64 rc], .loose ⟨3, 1, ao, 0⟩ no]) Try.envOk Try.mixed xE_ok ((I13 ac nc mc tc vc gc wc an nn mn tn ag ng mg tg vg rc ao no mo to)) ((V13 ac nc mc tc vc gc wc an nn mn tn ag ng mg tg vg rc ao no mo to)) (fun r => [newL (4 + 1) ((N13 ac nc mc tc vc gc wc an nn mn tn ag ng mg tg vg rc ao no mo to) r) ++ [(0, (false, .cols mc [.str tc, .str vc, .int .i64 gc, .bool wc])), (1, (false, .cols mn [.int .i64 tn])), (2, (false, .cols mg [.int .i64 tg, .int .i64 vg])), (3, (false, .cols mo [.int .i64 to]))]]) (fn := mkFn Try.f13) (ts := []) (n := 400) rfl (by decide) (by simp) (names_of rfl) ?_ ?_ ?_ h
  · intro s; exact s.elim
  · intro Kst Kret x hS hR h
    exact Holds.eq (te13 cond Kst Kret ac nc mc tc vc gc wc an nn mn tn ag ng mg tg vg rc ao no mo to) (be13 ac nc mc tc vc gc wc an nn mn tn ag ng mg tg vg rc ao no mo to Kst Kret x hS hR h)
  · intro Kst Kret x hS hR s h; exact s.elim
noncomputable def k13 : Con := ⟨13, [.agg [.list [.str, .str, .int .i64, .bool], .list [.int .i64], .list [.int .i64, .int .i64], .plain (.int .i64)], .one (.list [.int .i64])], fun (x : ((Nat × Nat × Nat × (Nat → ByteArray) × (Nat → ByteArray) × (Nat → Int) × (Nat → Bool) × Unit) × (Nat × Nat × Nat × (Nat → Int) × Unit) × (Nat × Nat × Nat × (Nat → Int) × (Nat → Int) × Unit) × Int × Unit) × (Nat × Nat × Nat × (Nat → Int) × Unit) × Unit) => (fun (ac nc mc : Nat) (tc : Nat → ByteArray) (vc : Nat → ByteArray) (gc : Nat → Int) (wc : Nat → Bool) (an nn mn : Nat) (tn : Nat → Int) (ag ng mg : Nat) (tg : Nat → Int) (vg : Nat → Int) (rc : Int) (ao no mo : Nat) (to : Nat → Int) => decide (ac + nc ≤ mc ∧ an + nn ≤ mn ∧ ag + ng ≤ mg ∧ ao + no ≤ mo ∧ no ≤ 20)) x.1.1.1 x.1.1.2.1 x.1.1.2.2.1 x.1.1.2.2.2.1 x.1.1.2.2.2.2.1 x.1.1.2.2.2.2.2.1 x.1.1.2.2.2.2.2.2.1 x.1.2.1.1 x.1.2.1.2.1 x.1.2.1.2.2.1 x.1.2.1.2.2.2.1 x.1.2.2.1.1 x.1.2.2.1.2.1 x.1.2.2.1.2.2.1 x.1.2.2.1.2.2.2.1 x.1.2.2.1.2.2.2.2.1 x.1.2.2.2.1 x.2.1.1 x.2.1.2.1 x.2.1.2.2.1 x.2.1.2.2.2.1, fun (x : ((Nat × Nat × Nat × (Nat → ByteArray) × (Nat → ByteArray) × (Nat → Int) × (Nat → Bool) × Unit) × (Nat × Nat × Nat × (Nat → Int) × Unit) × (Nat × Nat × Nat × (Nat → Int) × (Nat → Int) × Unit) × Int × Unit) × (Nat × Nat × Nat × (Nat → Int) × Unit) × Unit) => (fun (ac nc mc : Nat) (tc : Nat → ByteArray) (vc : Nat → ByteArray) (gc : Nat → Int) (wc : Nat → Bool) (an nn mn : Nat) (tn : Nat → Int) (ag ng mg : Nat) (tg : Nat → Int) (vg : Nat → Int) (rc : Int) (ao no mo : Nat) (to : Nat → Int) => (V13 ac nc mc tc vc gc wc an nn mn tn ag ng mg tg vg rc ao no mo to) (S.chkS (S.ttE nc (fun j => tc (j + ac)) (fun j => vc (j + ac)) (fun j => gc (j + ac)) nn (fun j => tn (j + an)) ng (fun j => tg (j + ag)) (fun j => vg (j + ag)) rc) (S.runS nc (fun j => gc (j + ac)) (fun j => wc (j + ac)) ng (fun j => tg (j + ag)) (fun j => vg (j + ag)) rc (fun j => to (j + ao)) 0 no 0 (-1) rc (S.mkl nn (fun j => tn (j + an))) []))) x.1.1.1 x.1.1.2.1 x.1.1.2.2.1 x.1.1.2.2.2.1 x.1.1.2.2.2.2.1 x.1.1.2.2.2.2.2.1 x.1.1.2.2.2.2.2.2.1 x.1.2.1.1 x.1.2.1.2.1 x.1.2.1.2.2.1 x.1.2.1.2.2.2.1 x.1.2.2.1.1 x.1.2.2.1.2.1 x.1.2.2.1.2.2.1 x.1.2.2.1.2.2.2.1 x.1.2.2.1.2.2.2.2.1 x.1.2.2.2.1 x.2.1.1 x.2.1.2.1 x.2.1.2.2.1 x.2.1.2.2.2.1, fun (x : ((Nat × Nat × Nat × (Nat → ByteArray) × (Nat → ByteArray) × (Nat → Int) × (Nat → Bool) × Unit) × (Nat × Nat × Nat × (Nat → Int) × Unit) × (Nat × Nat × Nat × (Nat → Int) × (Nat → Int) × Unit) × Int × Unit) × (Nat × Nat × Nat × (Nat → Int) × Unit) × Unit) => (fun (ac nc mc : Nat) (tc : Nat → ByteArray) (vc : Nat → ByteArray) (gc : Nat → Int) (wc : Nat → Bool) (an nn mn : Nat) (tn : Nat → Int) (ag ng mg : Nat) (tg : Nat → Int) (vg : Nat → Int) (rc : Int) (ao no mo : Nat) (to : Nat → Int) => (N13 ac nc mc tc vc gc wc an nn mn tn ag ng mg tg vg rc ao no mo to) (S.chkS (S.ttE nc (fun j => tc (j + ac)) (fun j => vc (j + ac)) (fun j => gc (j + ac)) nn (fun j => tn (j + an)) ng (fun j => tg (j + ag)) (fun j => vg (j + ag)) rc) (S.runS nc (fun j => gc (j + ac)) (fun j => wc (j + ac)) ng (fun j => tg (j + ag)) (fun j => vg (j + ag)) rc (fun j => to (j + ao)) 0 no 0 (-1) rc (S.mkl nn (fun j => tn (j + an))) []))) x.1.1.1 x.1.1.2.1 x.1.1.2.2.1 x.1.1.2.2.2.1 x.1.1.2.2.2.2.1 x.1.1.2.2.2.2.2.1 x.1.1.2.2.2.2.2.2.1 x.1.2.1.1 x.1.2.1.2.1 x.1.2.1.2.2.1 x.1.2.1.2.2.2.1 x.1.2.2.1.1 x.1.2.2.1.2.1 x.1.2.2.1.2.2.1 x.1.2.2.1.2.2.2.1 x.1.2.2.1.2.2.2.2.1 x.1.2.2.2.1 x.2.1.1 x.2.1.2.1 x.2.1.2.2.1 x.2.1.2.2.2.1, fun _ _ => .dead⟩
theorem s13 (ac nc mc : Nat) (tc : Nat → ByteArray) (vc : Nat → ByteArray) (gc : Nat → Int) (wc : Nat → Bool) (an nn mn : Nat) (tn : Nat → Int) (ag ng mg : Nat) (tg : Nat → Int) (vg : Nat → Int) (rc : Int) (ao no mo : Nat) (to : Nat → Int) (hp : ac + nc ≤ mc ∧ an + nn ≤ mn ∧ ag + ng ≤ mg ∧ ao + no ≤ mo ∧ no ≤ 20) : Goes ((q13 ac nc mc tc vc gc wc an nn mn tn ag ng mg tg vg rc ao no mo to)) ((p13 ac nc mc tc vc gc wc an nn mn tn ag ng mg tg vg rc ao no mo to)) (S.chkS (S.ttE nc (fun j => tc (j + ac)) (fun j => vc (j + ac)) (fun j => gc (j + ac)) nn (fun j => tn (j + an)) ng (fun j => tg (j + ag)) (fun j => vg (j + ag)) rc) (S.runS nc (fun j => gc (j + ac)) (fun j => wc (j + ac)) ng (fun j => tg (j + ag)) (fun j => vg (j + ag)) rc (fun j => to (j + ao)) 0 no 0 (-1) rc (S.mkl nn (fun j => tn (j + an))) [])) := by
  obtain ⟨h1, h2, h3, h4, h5⟩ := hp
  unfold p13
  unfold S.chkS
  have hst : S.ttE nc (fun j => tc (j + ac)) (fun j => vc (j + ac)) (fun j => gc (j + ac)) nn (fun j => tn (j + an)) ng (fun j => tg (j + ag)) (fun j => vg (j + ag)) rc = 0 → (S.runS nc (fun j => gc (j + ac)) (fun j => wc (j + ac)) ng (fun j => tg (j + ag)) (fun j => vg (j + ag)) rc (fun j => to (j + ao)) 0 no 0 (-1) rc (S.mkl nn (fun j => tn (j + an))) []).2.1 = true → (S.stS (fun j => gc (j + ac)) (fun j => wc (j + ac)) rc (fun j => to (j + ao)) 0 no 0 (-1) []).1 = (S.runS nc (fun j => gc (j + ac)) (fun j => wc (j + ac)) ng (fun j => tg (j + ag)) (fun j => vg (j + ag)) rc (fun j => to (j + ao)) 0 no 0 (-1) rc (S.mkl nn (fun j => tn (j + an))) []).1 := fun he hr => by
    obtain ⟨t, tg1, -⟩ := tt_ok he
    exact st_run tg1 t.2.2.2.2.1 no 0 0 (-1) rc (-1) _ _ _ hr (Int.le_refl _) (by omega) (Or.inl ⟨by omega, rfl⟩)
  generalize S.runS nc (fun j => gc (j + ac)) (fun j => wc (j + ac)) ng (fun j => tg (j + ag)) (fun j => vg (j + ag)) rc (fun j => to (j + ao)) 0 no 0 (-1) rc (S.mkl nn (fun j => tn (j + an))) [] = r at *
  refine goes_ok (decide_eq_true ⟨h1, h2, h3⟩) ?_
  by_cases he : S.ttE nc (fun j => tc (j + ac)) (fun j => vc (j + ac)) (fun j => gc (j + ac)) nn (fun j => tn (j + an)) ng (fun j => tg (j + ag)) (fun j => vg (j + ag)) rc = 0
  · rw [if_pos he]
    refine goes_no (by rw [he]; rfl) ?_
    refine goes_ok (decide_eq_true ⟨⟨h1, h2, h3, h4, h5⟩, he⟩) ?_
    by_cases hr : r.2.1 = true
    · rw [if_pos hr]
      refine goes_ok hr ?_
      refine goes_ok (decide_eq_true ⟨⟨h1, h2, h3, h4, h5⟩, he, hr⟩) ?_
      exact goes_inr.mpr (by rw [hst he hr])
    · rw [if_neg hr]
      exact goes_no (by simpa using hr) rfl
  · rw [if_neg he]
    exact goes_ok (by simpa using he) rfl

theorem k13_ok : k13.ok Try.prog := by
  intro x hx
  obtain ⟨⟨⟨ac, nc, mc, tc, vc, gc, wc, _⟩, ⟨an, nn, mn, tn, _⟩, ⟨ag, ng, mg, tg, vg, _⟩, rc, _⟩, ⟨ao, no, mo, to, _⟩, _⟩ := x
  obtain ⟨h1, h2⟩ := a13 ac nc mc tc vc gc wc an nn mn tn ag ng mg tg vg rc ao no mo to (s13 ac nc mc tc vc gc wc an nn mn tn ag ng mg tg vg rc ao no mo to (of_dec hx rfl))
  exact ⟨⟨400, (by decide : 4 + 1 + 0 ≤ 400), h1⟩, h2⟩

end Go.Ev
