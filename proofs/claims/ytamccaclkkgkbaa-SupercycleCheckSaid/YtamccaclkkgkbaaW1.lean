/-
  One cycle.
-/
import Derived.Test.YtamccaclkkgkbaaW0
import Derived.Test.YtamccaclkkgkbaaV1
import Derived.Test.YtamccaclkkgkbaaV4
namespace Go.Ev
open Go.Proofs
set_option linter.unusedVariables false
set_option linter.unusedSimpArgs false
set_option maxRecDepth 100000

namespace S
/-- The state behind a cycle, the ticks that it takes, and whether it is possible. -/
def stpS (nd : Nat) (td : Nat → Int) (si rc : Int) (bad inj : Bool) (len c : Int) : Int × Int × Int × Bool × List Int := if td c.toNat = 0 ∨ bad = true then (0, 0, 0, false, []) else (c, if inj = true then min rc len else min rc (si + len), if inj = true then len + rc - si else len, true, mkl nd fun j => bif Nat.beq j c.toNat then td c.toNat - 1 else td j)
end S
abbrev St59 := Empty
abbrev Rt59 := Int × Int × Int × Bool × List Int
noncomputable def V59 (ac nc mc : Nat) (tc : Nat → ByteArray) (vc : Nat → ByteArray) (gc : Nat → Int) (wc : Nat → Bool) (an nn mn : Nat) (tn : Nat → Int) (ag ng mg : Nat) (tg : Nat → Int) (vg : Nat → Int) (rc : Int) (ad nd md : Nat) (td : Nat → Int) (la : Int) (si : Int) (pv : Int) (cy : Int) (r : Rt59) : PV := PV.tup
 [PV.agg
 [PV.own (5) (1) (List.length r.2.2.2.2), PV.int IntKind.i64 r.1,
 PV.int IntKind.i64 r.2.1, PV.int IntKind.i64 (0 : Int)],
 PV.int IntKind.i64 r.2.2.1, PV.bool r.2.2.2.1]
noncomputable def N59 (ac nc mc : Nat) (tc : Nat → ByteArray) (vc : Nat → ByteArray) (gc : Nat → Int) (wc : Nat → Bool) (an nn mn : Nat) (tn : Nat → Int) (ag ng mg : Nat) (tg : Nat → Int) (vg : Nat → Int) (rc : Int) (ad nd md : Nat) (td : Nat → Int) (la : Int) (si : Int) (pv : Int) (cy : Int) (r : Rt59) : List Blk := [Blk.cols (List.length r.2.2.2.2) [Col.int IntKind.i64 fun (j : Nat) => S.at' r.2.2.2.2 j]]
noncomputable def I59 (ac nc mc : Nat) (tc : Nat → ByteArray) (vc : Nat → ByteArray) (gc : Nat → Int) (wc : Nat → Bool) (an nn mn : Nat) (tn : Nat → Int) (ag ng mg : Nat) (tg : Nat → Int) (vg : Nat → Int) (rc : Int) (ad nd md : Nat) (td : Nat → Int) (la : Int) (si : Int) (pv : Int) (cy : Int) : St59 → Hd := fun s => s.elim
noncomputable def q59 (ac nc mc : Nat) (tc : Nat → ByteArray) (vc : Nat → ByteArray) (gc : Nat → Int) (wc : Nat → Bool) (an nn mn : Nat) (tn : Nat → Int) (ag ng mg : Nat) (tg : Nat → Int) (vg : Nat → Int) (rc : Int) (ad nd md : Nat) (td : Nat → Int) (la : Int) (si : Int) (pv : Int) (cy : Int) : St59 → Option (St59 ⊕ Rt59) := fun s => s.elim
noncomputable def p59 (ac nc mc : Nat) (tc : Nat → ByteArray) (vc : Nat → ByteArray) (gc : Nat → Int) (wc : Nat → Bool) (an nn mn : Nat) (tn : Nat → Int) (ag ng mg : Nat) (tg : Nat → Int) (vg : Nat → Int) (rc : Int) (ad nd md : Nat) (td : Nat → Int) (la : Int) (si : Int) (pv : Int) (cy : Int) : Option (St59 ⊕ Rt59) := bif (decide ((0 : Int) ≤ cy ∧ cy < (↑nd : Int)))
 then (bif (decide (Int.toNat cy + ad < md))
 then (bif (td (Int.toNat cy + ad) == (0 : Int))
 then (some (.inr ((0 : Int), (0 : Int), (0 : Int), false, [])))
 else (bif (decide (ag + ng ≤ mg ∧ ng ≤ 1000000))
 then (bif (S.any (fun (j : Nat) => decide (tg (j + ag) = la) && decide (vg (j + ag) = cy)) ng)
 then (some (.inr ((0 : Int), (0 : Int), (0 : Int), false, [])))
 else (bif (decide (ad + nd ≤ md ∧ nd ≤ 1000000))
 then (bif (decide (Int.toNat cy < nd))
 then (bif (lim IntKind.i64 (td (Int.toNat cy + ad) - (1 : Int)))
 then (bif (decide ((0 : Int) ≤ cy ∧ cy < (↑nc : Int)))
 then (bif (decide (Int.toNat cy + ac < mc))
 then (bif (wc (Int.toNat cy + ac))
 then (bif (lim IntKind.i64 (gc (Int.toNat cy + ac) + rc))
 then (bif (lim IntKind.i64 (gc (Int.toNat cy + ac) + rc - si))
 then (some (.inr (cy, Min.min rc (gc (Int.toNat cy + ac)), gc (Int.toNat cy + ac) + rc - si, true, S.mkl nd fun (j : Nat) => bif Nat.beq j (Int.toNat cy) then td (Int.toNat cy + ad) - (1 : Int) else td (j + ad))))
 else (none))
 else (none))
 else (bif (lim IntKind.i64 (si + gc (Int.toNat cy + ac)))
 then (some (.inr (cy, Min.min rc (si + gc (Int.toNat cy + ac)), gc (Int.toNat cy + ac), true, S.mkl nd fun (j : Nat) => bif Nat.beq j (Int.toNat cy) then td (Int.toNat cy + ad) - (1 : Int) else td (j + ad))))
 else (none)))
 else (none))
 else (none))
 else (none))
 else (none))
 else (none)))
 else (none)))
 else (none))
 else (none)
noncomputable def Te59 (test : Bool → Prop → Prop → Prop) (Kst : KS) (Kret : KR) (ac nc mc : Nat) (tc : Nat → ByteArray) (vc : Nat → ByteArray) (gc : Nat → Int) (wc : Nat → Bool) (an nn mn : Nat) (tn : Nat → Int) (ag ng mg : Nat) (tg : Nat → Int) (vg : Nat → Int) (rc : Int) (ad nd md : Nat) (td : Nat → Int) (la : Int) (si : Int) (pv : Int) (cy : Int) : Prop :=
  test (decide ((0 : Int) ≤ cy ∧ cy < (↑nd : Int)))
 (test (decide (Int.toNat cy + ad < md))
 (test (td (Int.toNat cy + ad) == (0 : Int))
 (Kret (PV.tup
 [PV.agg
 [PV.nils, PV.int IntKind.i64 (0 : Int), PV.int IntKind.i64 (0 : Int),
 PV.int IntKind.i64 (0 : Int)],
 PV.int IntKind.i64 (0 : Int), PV.tf false]) ([[(3, false, Blk.cols md [Col.int IntKind.i64 td]),
 (2, false, Blk.cols mg [Col.int IntKind.i64 tg, Col.int IntKind.i64 vg]),
 (1, false, Blk.cols mn [Col.int IntKind.i64 tn]),
 (0, false,
 Blk.cols mc [Col.str tc, Col.str vc, Col.int IntKind.i64 gc, Col.bool wc])]]) (7))
 (test (decide (ag + ng ≤ mg ∧ ng ≤ 1000000))
 (test (S.any (fun (j : Nat) => decide (tg (j + ag) = la) && decide (vg (j + ag) = cy)) ng)
 (Kret (PV.tup
 [PV.agg
 [PV.nils, PV.int IntKind.i64 (0 : Int), PV.int IntKind.i64 (0 : Int),
 PV.int IntKind.i64 (0 : Int)],
 PV.int IntKind.i64 (0 : Int), PV.tf false]) ([[(3, false, Blk.cols md [Col.int IntKind.i64 td]),
 (2, false, Blk.cols mg [Col.int IntKind.i64 tg, Col.int IntKind.i64 vg]),
 (1, false, Blk.cols mn [Col.int IntKind.i64 tn]),
 (0, false,
 Blk.cols mc [Col.str tc, Col.str vc, Col.int IntKind.i64 gc, Col.bool wc])]]) (8))
 (test (decide (ad + nd ≤ md ∧ nd ≤ 1000000))
 (test (decide ((0 : Int) ≤ cy ∧ cy < (↑nd : Int)))
 (test (decide (Int.toNat cy < nd))
 (test (lim IntKind.i64 (td (Int.toNat cy + ad) - (1 : Int)))
 (test (decide ((0 : Int) ≤ cy ∧ cy < (↑nd : Int)))
 (test (decide (Int.toNat cy < nd))
 (test (decide ((0 : Int) ≤ cy ∧ cy < (↑nc : Int)))
 (test (decide (Int.toNat cy + ac < mc))
 (test (decide (Int.toNat cy + ac < mc))
 (test (decide (Int.toNat cy + ac < mc))
 (test (decide (Int.toNat cy + ac < mc))
 (test (wc (Int.toNat cy + ac))
 (test (lim IntKind.i64 (gc (Int.toNat cy + ac) + rc))
 (test (lim IntKind.i64 (gc (Int.toNat cy + ac) + rc - si))
 (Kret (PV.tup
 [PV.agg
 [PV.own (9) (1) nd, PV.int IntKind.i64 cy,
 PV.int IntKind.i64 (Min.min rc (gc (Int.toNat cy + ac))), PV.int IntKind.i64 (0 : Int)],
 PV.int IntKind.i64 (gc (Int.toNat cy + ac) + rc - si), PV.tf true]) ([[(3, false, Blk.cols md [Col.int IntKind.i64 td]),
 (2, false, Blk.cols mg [Col.int IntKind.i64 tg, Col.int IntKind.i64 vg]),
 (1, false, Blk.cols mn [Col.int IntKind.i64 tn]),
 (0, false,
 Blk.cols mc [Col.str tc, Col.str vc, Col.int IntKind.i64 gc, Col.bool wc]),
 (9, true,
 Blk.cols nd
 [Col.int IntKind.i64 fun (j : Nat) =>
 bif Nat.beq j (Int.toNat cy) then td (Int.toNat cy + ad) - (1 : Int) else td (j + ad)])]]) (12))
 (False))
 (False))
 (test (lim IntKind.i64 (si + gc (Int.toNat cy + ac)))
 (Kret (PV.tup
 [PV.agg
 [PV.own (9) (1) nd, PV.int IntKind.i64 cy,
 PV.int IntKind.i64 (Min.min rc (si + gc (Int.toNat cy + ac))), PV.int IntKind.i64 (0 : Int)],
 PV.int IntKind.i64 (gc (Int.toNat cy + ac)), PV.tf true]) ([[(3, false, Blk.cols md [Col.int IntKind.i64 td]),
 (2, false, Blk.cols mg [Col.int IntKind.i64 tg, Col.int IntKind.i64 vg]),
 (1, false, Blk.cols mn [Col.int IntKind.i64 tn]),
 (0, false,
 Blk.cols mc [Col.str tc, Col.str vc, Col.int IntKind.i64 gc, Col.bool wc]),
 (9, true,
 Blk.cols nd
 [Col.int IntKind.i64 fun (j : Nat) =>
 bif Nat.beq j (Int.toNat cy) then td (Int.toNat cy + ad) - (1 : Int) else td (j + ad)])]]) (12))
 (False)))
 (False))
 (False))
 (False))
 (False))
 (False))
 (False))
 (False))
 (False))
 (False))
 (False))
 (False)))
 (False)))
 (False))
 (False)
set_option maxRecDepth 100000 in
theorem te59 (test : Bool → Prop → Prop → Prop) (Kst : KS) (Kret : KR) (ac nc mc : Nat) (tc : Nat → ByteArray) (vc : Nat → ByteArray) (gc : Nat → Int) (wc : Nat → Bool) (an nn mn : Nat) (tn : Nat → Int) (ag ng mg : Nat) (tg : Nat → Int) (vg : Nat → Int) (rc : Int) (ad nd md : Nat) (td : Nat → Int) (la : Int) (si : Int) (pv : Int) (cy : Int) : run test Try.env true (xS test) true 400 ⟨59, [.cd (mkFn Try.f59).body], argT 0 [.agg [.loose ⟨0, 4, ac, 0⟩ nc, .loose ⟨1, 1, an, 0⟩ nn, .loose ⟨2, 2, ag, 0⟩ ng, .int .i64 rc], .agg [.loose ⟨3, 1, ad, 0⟩ nd, .int .i64 la, .int .i64 si, .int .i64 pv], .int .i64 cy], [[], [(0, (false, .cols mc [.str tc, .str vc, .int .i64 gc, .bool wc])), (1, (false, .cols mn [.int .i64 tn])), (2, (false, .cols mg [.int .i64 tg, .int .i64 vg])), (3, (false, .cols md [.int .i64 td]))]], 4⟩ (proj 4 [] Kst Kret) =
  Te59 test Kst Kret ac nc mc tc vc gc wc an nn mn tn ag ng mg tg vg rc ad nd md td la si pv cy := by kernel_rfl
attribute [local irreducible] Int.subNatNat in
set_option maxRecDepth 100000 in
theorem be59 (ac nc mc : Nat) (tc : Nat → ByteArray) (vc : Nat → ByteArray) (gc : Nat → Int) (wc : Nat → Bool) (an nn mn : Nat) (tn : Nat → Int) (ag ng mg : Nat) (tg : Nat → Int) (vg : Nat → Int) (rc : Int) (ad nd md : Nat) (td : Nat → Int) (la : Int) (si : Int) (pv : Int) (cy : Int) (Kst : KS) (Kret : KR) (x : St59 ⊕ Rt59) (hS : HS 4 400 ((I59 ac nc mc tc vc gc wc an nn mn tn ag ng mg tg vg rc ad nd md td la si pv cy)) Kst x) (hR : HR 4 400 ((V59 ac nc mc tc vc gc wc an nn mn tn ag ng mg tg vg rc ad nd md td la si pv cy)) (fun r => [newL (4 + 1) ((N59 ac nc mc tc vc gc wc an nn mn tn ag ng mg tg vg rc ad nd md td la si pv cy) r) ++ [(0, (false, .cols mc [.str tc, .str vc, .int .i64 gc, .bool wc])), (1, (false, .cols mn [.int .i64 tn])), (2, (false, .cols mg [.int .i64 tg, .int .i64 vg])), (3, (false, .cols md [.int .i64 td]))]]) Kret x) (h : (bif (decide ((0 : Int) ≤ cy ∧ cy < (↑nd : Int)))
 then (bif (decide (Int.toNat cy + ad < md))
 then (bif (td (Int.toNat cy + ad) == (0 : Int))
 then (some (.inr ((0 : Int), (0 : Int), (0 : Int), false, [])))
 else (bif (decide (ag + ng ≤ mg ∧ ng ≤ 1000000))
 then (bif (S.any (fun (j : Nat) => decide (tg (j + ag) = la) && decide (vg (j + ag) = cy)) ng)
 then (some (.inr ((0 : Int), (0 : Int), (0 : Int), false, [])))
 else (bif (decide (ad + nd ≤ md ∧ nd ≤ 1000000))
 then (bif (decide (Int.toNat cy < nd))
 then (bif (lim IntKind.i64 (td (Int.toNat cy + ad) - (1 : Int)))
 then (bif (decide ((0 : Int) ≤ cy ∧ cy < (↑nc : Int)))
 then (bif (decide (Int.toNat cy + ac < mc))
 then (bif (wc (Int.toNat cy + ac))
 then (bif (lim IntKind.i64 (gc (Int.toNat cy + ac) + rc))
 then (bif (lim IntKind.i64 (gc (Int.toNat cy + ac) + rc - si))
 then (some (.inr (cy, Min.min rc (gc (Int.toNat cy + ac)), gc (Int.toNat cy + ac) + rc - si, true, S.mkl nd fun (j : Nat) => bif Nat.beq j (Int.toNat cy) then td (Int.toNat cy + ad) - (1 : Int) else td (j + ad))))
 else (none))
 else (none))
 else (bif (lim IntKind.i64 (si + gc (Int.toNat cy + ac)))
 then (some (.inr (cy, Min.min rc (si + gc (Int.toNat cy + ac)), gc (Int.toNat cy + ac), true, S.mkl nd fun (j : Nat) => bif Nat.beq j (Int.toNat cy) then td (Int.toNat cy + ad) - (1 : Int) else td (j + ad))))
 else (none)))
 else (none))
 else (none))
 else (none))
 else (none))
 else (none)))
 else (none)))
 else (none))
 else (none) : Option (St59 ⊕ Rt59)) = some x) : Te59 cond Kst Kret ac nc mc tc vc gc wc an nn mn tn ag ng mg tg vg rc ad nd md td la si pv cy := by
  unfold Te59
  exact bif_split h
   (fun c0 h => bif_split h
   (fun c1 h => bif_split h
   (fun c2 h => ret_at hR _ h (fun n => bif Nat.beq n 5 then 399 else n) rfl rfl rfl (rn_tup ⟨(rn_agg ⟨(rn_own_nils rfl), (rn_int rfl), (rn_int rfl), (rn_int rfl), trivial⟩), (rn_int rfl), (rn_bool_tf rfl), trivial⟩) rfl (entl_fresh (use_own rfl) (fresh_ok rfl) (entl_bor (use_lo rfl) rfl rfl (entl_bor (use_lo rfl) rfl rfl (entl_bor (use_lo rfl) rfl rfl (entl_bor (use_lo rfl) rfl rfl entl_nil))))))
   (fun c2 h => bif_split h
   (fun c3 h => bif_split h
   (fun c4 h => ret_at hR _ h (fun n => bif Nat.beq n 5 then 399 else n) rfl rfl rfl (rn_tup ⟨(rn_agg ⟨(rn_own_nils rfl), (rn_int rfl), (rn_int rfl), (rn_int rfl), trivial⟩), (rn_int rfl), (rn_bool_tf rfl), trivial⟩) rfl (entl_fresh (use_own rfl) (fresh_ok rfl) (entl_bor (use_lo rfl) rfl rfl (entl_bor (use_lo rfl) rfl rfl (entl_bor (use_lo rfl) rfl rfl (entl_bor (use_lo rfl) rfl rfl entl_nil))))))
   (fun c4 h => bif_split h
   (fun c5 h => cond_yes c0 (bif_split h
   (fun c6 h => bif_split h
   (fun c7 h => cond_yes c0 (cond_yes c6 (bif_split h
   (fun c8 h => bif_split h
   (fun c9 h => cond_yes c9 (cond_yes c9 (cond_yes c9 (bif_split h
   (fun c10 h => bif_split h
   (fun c11 h => bif_split h
   (fun c12 h => ret_at hR _ h (fun n => bif Nat.beq n 5 then 9 else n) rfl rfl rfl (rn_tup ⟨(rn_agg ⟨(rn_own (use_own rfl) rfl mkl_len), (rn_int rfl), (rn_int rfl), (rn_int rfl), trivial⟩), (rn_int rfl), (rn_bool_tf rfl), trivial⟩) rfl (entl_new (use_own rfl) rfl (Nat.le_of_eq mkl_len) (rcs_int (fun _ hj => col_mkl (fun (t : Int) => t) hj) rcs_nil) (entl_bor (use_lo rfl) rfl rfl (entl_bor (use_lo rfl) rfl rfl (entl_bor (use_lo rfl) rfl rfl (entl_bor (use_lo rfl) rfl rfl entl_nil))))))
   (fun c12 h => no_some h))
   (fun c11 h => no_some h))
   (fun c10 h => bif_split h
   (fun c11 h => ret_at hR _ h (fun n => bif Nat.beq n 5 then 9 else n) rfl rfl rfl (rn_tup ⟨(rn_agg ⟨(rn_own (use_own rfl) rfl mkl_len), (rn_int rfl), (rn_int rfl), (rn_int rfl), trivial⟩), (rn_int rfl), (rn_bool_tf rfl), trivial⟩) rfl (entl_new (use_own rfl) rfl (Nat.le_of_eq mkl_len) (rcs_int (fun _ hj => col_mkl (fun (t : Int) => t) hj) rcs_nil) (entl_bor (use_lo rfl) rfl rfl (entl_bor (use_lo rfl) rfl rfl (entl_bor (use_lo rfl) rfl rfl (entl_bor (use_lo rfl) rfl rfl entl_nil))))))
   (fun c11 h => no_some h))))))
   (fun c9 h => no_some h))
   (fun c8 h => no_some h))))
   (fun c7 h => no_some h))
   (fun c6 h => no_some h)))
   (fun c5 h => no_some h)))
   (fun c3 h => no_some h)))
   (fun c1 h => no_some h))
   (fun c0 h => no_some h)
theorem a59 (ac nc mc : Nat) (tc : Nat → ByteArray) (vc : Nat → ByteArray) (gc : Nat → Int) (wc : Nat → Bool) (an nn mn : Nat) (tn : Nat → Int) (ag ng mg : Nat) (tg : Nat → Int) (vg : Nat → Int) (rc : Int) (ad nd md : Nat) (td : Nat → Int) (la : Int) (si : Int) (pv : Int) (cy : Int) {r : Rt59} (h : Goes ((q59 ac nc mc tc vc gc wc an nn mn tn ag ng mg tg vg rc ad nd md td la si pv cy)) ((p59 ac nc mc tc vc gc wc an nn mn tn ag ng mg tg vg rc ad nd md td la si pv cy)) r) : CallR Try.prog 59 [.agg [.loose ⟨0, 4, ac, 0⟩ nc, .loose ⟨1, 1, an, 0⟩ nn, .loose ⟨2, 2, ag, 0⟩ ng, .int .i64 rc], .agg [.loose ⟨3, 1, ad, 0⟩ nd, .int .i64 la, .int .i64 si, .int .i64 pv], .int .i64 cy] [[(0, (false, .cols mc [.str tc, .str vc, .int .i64 gc, .bool wc])), (1, (false, .cols mn [.int .i64 tn])), (2, (false, .cols mg [.int .i64 tg, .int .i64 vg])), (3, (false, .cols md [.int .i64 td]))]] 4 ((V59 ac nc mc tc vc gc wc an nn mn tn ag ng mg tg vg rc ad nd md td la si pv cy) r) ((fun r => [newL (4 + 1) ((N59 ac nc mc tc vc gc wc an nn mn tn ag ng mg tg vg rc ad nd md td la si pv cy) r) ++ [(0, (false, .cols mc [.str tc, .str vc, .int .i64 gc, .bool wc])), (1, (false, .cols mn [.int .i64 tn])), (2, (false, .cols mg [.int .i64 tg, .int .i64 vg])), (3, (false, .cols md [.int .i64 td]))]]) r) 400 ∧ ∃ F, Try.prog.funcs[59]? = some F ∧ F.body.isSome = true ∧ (F.name == "runtime.NumGoroutine") = false := by
  refine dec_calls (f := 59) (lo := 4) (hi := 400) (H := [[(0, (false, .cols mc [.str tc, .str vc, .int .i64 gc, .bool wc])), (1, (false, .cols mn [.int .i64 tn])), (2, (false, .cols mg [.int .i64 tg, .int .i64 vg])), (3, (false, .cols md [.int .i64 td]))]]) (args := [.agg [.loose ⟨0, 4, ac, 0⟩ nc, .loose ⟨1, 1, an, 0⟩ nn, .loose ⟨2, 2, ag, 0⟩ ng, .int .i64 rc], .agg [.loose ⟨3, 1, ad, 0⟩ nd, .int .i64 la, .int .i64 si, .int .i64 pv], .int .i64 cy]) Try.envOk Try.mixed xS_ok ((I59 ac nc mc tc vc gc wc an nn mn tn ag ng mg tg vg rc ad nd md td la si pv cy)) ((V59 ac nc mc tc vc gc wc an nn mn tn ag ng mg tg vg rc ad nd md td la si pv cy)) (fun r => [newL (4 + 1) ((N59 ac nc mc tc vc gc wc an nn mn tn ag ng mg tg vg rc ad nd md td la si pv cy) r) ++ [(0, (false, .cols mc [.str tc, .str vc, .int .i64 gc, .bool wc])), (1, (false, .cols mn [.int .i64 tn])), (2, (false, .cols mg [.int .i64 tg, .int .i64 vg])), (3, (false, .cols md [.int .i64 td]))]]) (fn := mkFn Try.f59) (ts := []) (n := 400) rfl (by decide) (by simp) (names_of rfl) ?_ ?_ ?_ h
  · intro s; exact s.elim
  · intro Kst Kret x hS hR h
    exact Holds.eq (te59 cond Kst Kret ac nc mc tc vc gc wc an nn mn tn ag ng mg tg vg rc ad nd md td la si pv cy) (be59 ac nc mc tc vc gc wc an nn mn tn ag ng mg tg vg rc ad nd md td la si pv cy Kst Kret x hS hR h)
  · intro Kst Kret x hS hR s h; exact s.elim
noncomputable def k59 : Con := ⟨59, [.agg [.list [.str, .str, .int .i64, .bool], .list [.int .i64], .list [.int .i64, .int .i64], .plain (.int .i64)], .agg [.list [.int .i64], .plain (.int .i64), .plain (.int .i64), .plain (.int .i64)], .one (.plain (.int .i64))], fun (x : ((Nat × Nat × Nat × (Nat → ByteArray) × (Nat → ByteArray) × (Nat → Int) × (Nat → Bool) × Unit) × (Nat × Nat × Nat × (Nat → Int) × Unit) × (Nat × Nat × Nat × (Nat → Int) × (Nat → Int) × Unit) × Int × Unit) × ((Nat × Nat × Nat × (Nat → Int) × Unit) × Int × Int × Int × Unit) × Int × Unit) => (fun (ac nc mc : Nat) (tc : Nat → ByteArray) (vc : Nat → ByteArray) (gc : Nat → Int) (wc : Nat → Bool) (an nn mn : Nat) (tn : Nat → Int) (ag ng mg : Nat) (tg : Nat → Int) (vg : Nat → Int) (rc : Int) (ad nd md : Nat) (td : Nat → Int) (la : Int) (si : Int) (pv : Int) (cy : Int) => decide ((ad + nd ≤ md ∧ nd ≤ 1000 ∧ ac + nc ≤ mc ∧ ag + ng ≤ mg ∧ ng ≤ 1000 ∧ nd = nc) ∧ (0 ≤ cy ∧ cy < nd ∧ 0 ≤ rc ∧ rc ≤ 1000 ∧ 0 ≤ si ∧ si ≤ 1000) ∧ (0 ≤ td (cy.toNat + ad) ∧ td (cy.toNat + ad) ≤ 1000 ∧ 1 ≤ gc (cy.toNat + ac) ∧ gc (cy.toNat + ac) ≤ 200))) x.1.1.1 x.1.1.2.1 x.1.1.2.2.1 x.1.1.2.2.2.1 x.1.1.2.2.2.2.1 x.1.1.2.2.2.2.2.1 x.1.1.2.2.2.2.2.2.1 x.1.2.1.1 x.1.2.1.2.1 x.1.2.1.2.2.1 x.1.2.1.2.2.2.1 x.1.2.2.1.1 x.1.2.2.1.2.1 x.1.2.2.1.2.2.1 x.1.2.2.1.2.2.2.1 x.1.2.2.1.2.2.2.2.1 x.1.2.2.2.1 x.2.1.1.1 x.2.1.1.2.1 x.2.1.1.2.2.1 x.2.1.1.2.2.2.1 x.2.1.2.1 x.2.1.2.2.1 x.2.1.2.2.2.1 x.2.2.1, fun (x : ((Nat × Nat × Nat × (Nat → ByteArray) × (Nat → ByteArray) × (Nat → Int) × (Nat → Bool) × Unit) × (Nat × Nat × Nat × (Nat → Int) × Unit) × (Nat × Nat × Nat × (Nat → Int) × (Nat → Int) × Unit) × Int × Unit) × ((Nat × Nat × Nat × (Nat → Int) × Unit) × Int × Int × Int × Unit) × Int × Unit) => (fun (ac nc mc : Nat) (tc : Nat → ByteArray) (vc : Nat → ByteArray) (gc : Nat → Int) (wc : Nat → Bool) (an nn mn : Nat) (tn : Nat → Int) (ag ng mg : Nat) (tg : Nat → Int) (vg : Nat → Int) (rc : Int) (ad nd md : Nat) (td : Nat → Int) (la : Int) (si : Int) (pv : Int) (cy : Int) => (V59 ac nc mc tc vc gc wc an nn mn tn ag ng mg tg vg rc ad nd md td la si pv cy) (S.stpS nd (fun j => td (j + ad)) si rc (S.any (fun j => decide (tg (j + ag) = la) && decide (vg (j + ag) = cy)) ng) (wc (cy.toNat + ac)) (gc (cy.toNat + ac)) cy)) x.1.1.1 x.1.1.2.1 x.1.1.2.2.1 x.1.1.2.2.2.1 x.1.1.2.2.2.2.1 x.1.1.2.2.2.2.2.1 x.1.1.2.2.2.2.2.2.1 x.1.2.1.1 x.1.2.1.2.1 x.1.2.1.2.2.1 x.1.2.1.2.2.2.1 x.1.2.2.1.1 x.1.2.2.1.2.1 x.1.2.2.1.2.2.1 x.1.2.2.1.2.2.2.1 x.1.2.2.1.2.2.2.2.1 x.1.2.2.2.1 x.2.1.1.1 x.2.1.1.2.1 x.2.1.1.2.2.1 x.2.1.1.2.2.2.1 x.2.1.2.1 x.2.1.2.2.1 x.2.1.2.2.2.1 x.2.2.1, fun (x : ((Nat × Nat × Nat × (Nat → ByteArray) × (Nat → ByteArray) × (Nat → Int) × (Nat → Bool) × Unit) × (Nat × Nat × Nat × (Nat → Int) × Unit) × (Nat × Nat × Nat × (Nat → Int) × (Nat → Int) × Unit) × Int × Unit) × ((Nat × Nat × Nat × (Nat → Int) × Unit) × Int × Int × Int × Unit) × Int × Unit) => (fun (ac nc mc : Nat) (tc : Nat → ByteArray) (vc : Nat → ByteArray) (gc : Nat → Int) (wc : Nat → Bool) (an nn mn : Nat) (tn : Nat → Int) (ag ng mg : Nat) (tg : Nat → Int) (vg : Nat → Int) (rc : Int) (ad nd md : Nat) (td : Nat → Int) (la : Int) (si : Int) (pv : Int) (cy : Int) => (N59 ac nc mc tc vc gc wc an nn mn tn ag ng mg tg vg rc ad nd md td la si pv cy) (S.stpS nd (fun j => td (j + ad)) si rc (S.any (fun j => decide (tg (j + ag) = la) && decide (vg (j + ag) = cy)) ng) (wc (cy.toNat + ac)) (gc (cy.toNat + ac)) cy)) x.1.1.1 x.1.1.2.1 x.1.1.2.2.1 x.1.1.2.2.2.1 x.1.1.2.2.2.2.1 x.1.1.2.2.2.2.2.1 x.1.1.2.2.2.2.2.2.1 x.1.2.1.1 x.1.2.1.2.1 x.1.2.1.2.2.1 x.1.2.1.2.2.2.1 x.1.2.2.1.1 x.1.2.2.1.2.1 x.1.2.2.1.2.2.1 x.1.2.2.1.2.2.2.1 x.1.2.2.1.2.2.2.2.1 x.1.2.2.2.1 x.2.1.1.1 x.2.1.1.2.1 x.2.1.1.2.2.1 x.2.1.1.2.2.2.1 x.2.1.2.1 x.2.1.2.2.1 x.2.1.2.2.2.1 x.2.2.1, fun _ _ => .dead⟩
theorem s59 (ac nc mc : Nat) (tc : Nat → ByteArray) (vc : Nat → ByteArray) (gc : Nat → Int) (wc : Nat → Bool) (an nn mn : Nat) (tn : Nat → Int) (ag ng mg : Nat) (tg : Nat → Int) (vg : Nat → Int) (rc : Int) (ad nd md : Nat) (td : Nat → Int) (la : Int) (si : Int) (pv : Int) (cy : Int) (hp : (ad + nd ≤ md ∧ nd ≤ 1000 ∧ ac + nc ≤ mc ∧ ag + ng ≤ mg ∧ ng ≤ 1000 ∧ nd = nc) ∧ (0 ≤ cy ∧ cy < nd ∧ 0 ≤ rc ∧ rc ≤ 1000 ∧ 0 ≤ si ∧ si ≤ 1000) ∧ (0 ≤ td (cy.toNat + ad) ∧ td (cy.toNat + ad) ≤ 1000 ∧ 1 ≤ gc (cy.toNat + ac) ∧ gc (cy.toNat + ac) ≤ 200)) : Goes ((q59 ac nc mc tc vc gc wc an nn mn tn ag ng mg tg vg rc ad nd md td la si pv cy)) ((p59 ac nc mc tc vc gc wc an nn mn tn ag ng mg tg vg rc ad nd md td la si pv cy)) (S.stpS nd (fun j => td (j + ad)) si rc (S.any (fun j => decide (tg (j + ag) = la) && decide (vg (j + ag) = cy)) ng) (wc (cy.toNat + ac)) (gc (cy.toNat + ac)) cy) := by
  obtain ⟨⟨a1, a2, a3, a4, a5, a6⟩, ⟨b1, b2, b3, b4, b5, b6⟩, c1, c2, c3, c4⟩ := hp
  unfold S.stpS
  cases hb : (S.any (fun j => decide (tg (j + ag) = la) && decide (vg (j + ag) = cy)) ng) <;> cases hw : wc (cy.toNat + ac)
  all_goals
    by_cases h0 : td (cy.toNat + ad) = 0
    all_goals
      unfold p59
      simp only [hb, hw, h0]
      repeat' first
        | with_reducible refine goes_if (fun h => ?_) (fun h => ?_) <;> (try simp only [lim64, imp_false, decide_eq_true_eq, decide_eq_false_iff_not, Int.toNat_natCast, toNat_pred, toNat_succ, Option.getD_some, Option.getD_none, Bool.not_eq_true', Bool.not_eq_false', Bool.and_eq_true, Bool.or_eq_true, Bool.and_eq_false_iff, Bool.or_eq_false_iff, bne_iff_ne, beq_iff_eq, bne_eq_false_iff_eq, beq_eq_false_iff_ne, ne_eq, not_and, Int.not_le, Int.not_lt, ge_iff_le, gt_iff_lt, Nat.not_lt, Nat.not_le, Bool.not_eq_true, Bool.not_eq_false, Bool.true_eq_false, Bool.false_eq_true, not_false_eq_true, not_true_eq_false] at h)
        | exact goes_none.mpr (by omega)
      all_goals first | (exfalso; omega) | rfl | (rw [if_pos (by simp [h0])]; rfl) | (rw [if_neg (by simp [h0])]; rfl)

theorem k59_ok : k59.ok Try.prog := by
  intro x hx
  obtain ⟨⟨⟨ac, nc, mc, tc, vc, gc, wc, _⟩, ⟨an, nn, mn, tn, _⟩, ⟨ag, ng, mg, tg, vg, _⟩, rc, _⟩, ⟨⟨ad, nd, md, td, _⟩, la, si, pv, _⟩, cy, _⟩ := x
  obtain ⟨h1, h2⟩ := a59 ac nc mc tc vc gc wc an nn mn tn ag ng mg tg vg rc ad nd md td la si pv cy (s59 ac nc mc tc vc gc wc an nn mn tn ag ng mg tg vg rc ad nd md td la si pv cy (of_dec hx rfl))
  exact ⟨⟨400, (by decide : 4 + 1 + 1 ≤ 400), h1⟩, h2⟩
noncomputable def xK (test : Bool → Prop → Prop → Prop) : Ext := consX test [k14, k12, k58, k59]
theorem xK_ok : ExtOk Try.prog (xK cond) := consX_ok ⟨k14_ok, k12_ok, k58_ok, k59_ok, trivial⟩

end Go.Ev
